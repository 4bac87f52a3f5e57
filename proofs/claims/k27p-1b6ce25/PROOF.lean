import PyProof.Rows.All
import Wide.All
import OpenK.AllK
import Wide.FinOn
import HandS.ForMost
import HandS.IsInst
import HandS.FStr
import HandS.Lambda
import HandS.TupAny
import HandS.Star
import HandS.Strs
import HandS.Deep
import KE.GoesMore
import PyProof.EnumMake
import HandS.Codes
import HandS.Property
import HandS.MakeKwOnly
import KE.KCallOwn
import OpenK.KOps
import HandS.Conv
import HandS.Defaults
import PyProof.ListTruth
import HandS.Small
import HandS.OwnEq
import PyProof.CollectIter
import HandS.ClsMeth
import HandS.ExcInitHot
import HandS.ExcCtx
import HandS.ExcInit
import HandS.WordsExc
import HandS.ExcOwn
import HandS.HotCalls
import HandS.ExcIs
import HandS.ExcField
import KE.KExcIs
import HandS.SetBool
import PyProof.Rows.SetFrom
import HandS.Dict
import HandS.Text
import HandS.List
import HandS.NoneIn
import HandS.EndTab
import KE.KNestM
import HandS.TupMul
import HandS.SuiteRaise
import HandS.RaiseFrom
import PyProof.StrBlock2
import HandS.DictComp
import HandS.Exc
import PyProof.InstStore
import PyProof.InstStoreFacts
import PyProof.TupleOfStr
import HandS.Style
import HandS.Records
import HandS.More
import PySem.Challenge.RW_joinrounds_k27_words_of_many_letters
set_option Elab.async false
set_option linter.all false
set_option maxRecDepth 100000
set_option maxHeartbeats 0
set_option autoImplicit false
namespace J
@[elab_as_elim] theorem len1 {α : Type} {P : List α → Prop} : ∀ (us : List α), us.length = 1 → (∀ a, P [a]) → P us
  | [a], _, k => k a
@[elab_as_elim] theorem len2 {α : Type} {P : List α → Prop} : ∀ (us : List α), us.length = 2 → (∀ a b, P [a, b]) → P us
  | [a, b], _, k => k a b
@[elab_as_elim] theorem len3 {α : Type} {P : List α → Prop} : ∀ (us : List α), us.length = 3 → (∀ a b c, P [a, b, c]) → P us
  | [a, b, c], _, k => k a b c
@[elab_as_elim] theorem len4 {α : Type} {P : List α → Prop} : ∀ (us : List α), us.length = 4 → (∀ a b c d, P [a, b, c, d]) → P us
  | [a, b, c, d], _, k => k a b c d
end J
namespace J
open PySem PySem.Spec
open PyProof.Rows L2
noncomputable def Nt (o : HO) : Prop := ∀ q, o ≠ .tbl q
noncomputable def Pl (o : HO) : Prop := Nt o ∧ ∀ f, o ≠ .ext f
noncomputable def noTab : Option HO → Option HO
  | some (.tbl _) => none
  | x => x
theorem noTab_some {x : Option HO} {o : HO} (h : noTab x = some o) : x = some o ∧ Nt o := by
  match x, h with
  | some (.tbl q), h => cases h
  | none, h => cases h
  | some (.lst _), h | some (.tup _), h | some (.dK _), h | some (.dT _), h | some (.set _ _), h | some (.ins _ _ _), h | some (.own _), h | some (.xd _), h | some (.met _ _), h | some (.rng _ _), h | some (.frz _ _), h | some (.ext _), h =>
    refine ⟨h, fun q z => ?_⟩
    rw [z] at h
    cases h
theorem noTab_of {x : Option HO} {o : HO} (h : x = some o) (n : Nt o) : noTab x = some o := by
  subst h
  cases o <;> first | rfl | exact absurd rfl (n _)
noncomputable def dl (H : Hp) (S : List Addr) : Hp := fun b => if b ∈ S then none else noTab (H b)
noncomputable def Fr (S : List Addr) (H H' : Hp) : Prop := ∀ b o, H b = some o → b ∉ S → Nt o → H' b = some o
theorem Fr.refl {S : List Addr} {H : Hp} : Fr S H H := fun _ _ h _ _ => h
theorem Fr.trans {S : List Addr} {H H1 H2 : Hp} (a : Fr S H H1) (b : Fr S H1 H2) : Fr S H H2 := fun x o h n m => b x o (a x o h n m) n m
theorem Fr.of_same {S : List Addr} {H H1 : Hp} (a : Same H H1) : Fr S H H1 := fun x o h _ _ => a x o h
theorem Same.new {H : Hp} {p : Addr} {o : HO} (h : H p = none) : Same H (upd H p o) := fun a u e => by
  rw [upd_ne (ne_of_none e h)]
  exact e
noncomputable def Nw (H : Hp) (p : Addr) : Prop := ∀ o, H p = some o → ¬ Nt o
theorem Nw.of {H : Hp} {p : Addr} (h : H p = none) : Nw H p := fun o e => by rw [h] at e; cases e
theorem Nw.back {S : List Addr} {H H1 : Hp} {p : Addr} (f : Fr S H H1) (h : Nw H1 p) (n : p ∉ S) : Nw H p := fun o e nt => h o (f p o e n nt) nt
theorem Nw.ne {H : Hp} {p b : Addr} {o : HO} (e : H b = some o) (nt : Nt o) (h : Nw H p) : b ≠ p := fun z => h o (z ▸ e) nt
theorem dl_some {H : Hp} {S : List Addr} {b : Addr} {o : HO} (h : dl H S b = some o) : b ∉ S ∧ H b = some o := by
  unfold dl at h
  by_cases hb : b ∈ S
  · rw [if_pos hb] at h; cases h
  · rw [if_neg hb] at h; exact ⟨hb, (noTab_some h).1⟩
theorem dl_nt {H : Hp} {S : List Addr} {b : Addr} {o : HO} (h : dl H S b = some o) : Nt o := by
  unfold dl at h
  by_cases hb : b ∈ S
  · rw [if_pos hb] at h; cases h
  · rw [if_neg hb] at h; exact (noTab_some h).2
theorem dl_of {H : Hp} {S : List Addr} {b : Addr} {o : HO} (hb : b ∉ S) (h : H b = some o) (n : Nt o := by intro q z; cases z) : dl H S b = some o := by
  unfold dl
  rw [if_neg hb]
  exact noTab_of h n
theorem dl_same {H : Hp} {S : List Addr} : Same (dl H S) H := fun b o h => (dl_some h).2
theorem Fr.sameDl {S T : List Addr} {H H' : Hp} (f : Fr S H H') (h : ∀ b ∈ S, b ∈ T) : Same (dl H T) (dl H' T) := fun b o e => by
  have nt := dl_nt e
  obtain ⟨n, e⟩ := dl_some e
  exact dl_of n (f b o e (fun z => n (h b z)) nt) nt
theorem dl_sub {H : Hp} {S T : List Addr} (h : ∀ b ∈ T, b ∈ S) : Same (dl H S) (dl H T) := fun b o e => by
  have nt := dl_nt e
  obtain ⟨n, e⟩ := dl_some e
  exact dl_of (fun z => n (h b z)) e nt
noncomputable def lamDefs : List Str := ["_law_fits", "_law_right", "_law_asked", "_law_read_fits", "_law_by_hand", "_law_cleared", "_law_all_of", "law"]
noncomputable def lamMark (x : Str) (c : Str → Bool) : Bool := if x == "_law_right" then (c "_law_made" || (c "_law_one" || (c "_law_row_here" || (c "_law_line_here" || (c "_law_things" || (c "_law_thing" || (c "_law_told_here" && !c "_law_mine"))))))) else if x == "law" then c "_law_thing" else true
noncomputable def hasCell (K : PySem.W.Frag) (x : Str) : Bool := match PySem.W.nsIn K mainGlobals x with
  | some (some (.ref f)) => (match K.lookup f with
    | some ⟨_, _, .func fd, _⟩ => lamMark x fun n => decide (fd.scope.names.lookup n = some NameKind.cell)
    | _ => false)
  | _ => false
noncomputable def lamTab (K : PySem.W.Frag) (x : Str) : Option (Addr × Addr) := if hasCell K x = true then PySem.W.tabIn K x else none
theorem lamTab_in {K : PySem.W.Frag} {x : Str} {cp : Addr × Addr} (h : lamTab K x = some cp) : PySem.W.tabIn K x = some cp := by
  unfold lamTab at h
  split at h
  · exact h
  · cases h
noncomputable def tabsK (K : PySem.W.Frag) : List (Addr × Str) := lamDefs.filterMap fun x => (lamTab K x).map fun cp => (cp.2, x ++ ".<locals>." ++ "<lambda>")
theorem tabs_fr {T : List (Addr × Str)} {H H' : Hp} (t : LamX.Tabs T H) (h1 : ∀ b o, H b = some o → ¬ Pl o → H' b = some o) : LamX.Tabs T H' := fun p hp => by
  obtain ⟨ps, e, t3, h3⟩ := t p hp
  refine ⟨ps, h1 _ _ e (fun z => z.1 ps rfl), t3, fun pos cv hc => ?_⟩
  obtain ⟨c, e1, e2⟩ := h3 pos cv hc
  exact ⟨c, e1, h1 _ _ e2 (fun z => z.2 _ rfl)⟩
theorem tabs_upd {T : List (Addr × Str)} {H : Hp} {a : Addr} {o : HO} (t : LamX.Tabs T H) (h : ∀ u, H a = some u → Pl u) : LamX.Tabs T (upd H a o) := tabs_fr t fun b u e n => by
  have nb : b ≠ a := fun z => by
    rw [z] at e
    exact n (h u e)
  rw [upd_ne nb]
  exact e
noncomputable def keyD : Key → PyData
  | .inl i => .int i
  | .inr s => .str s
mutual
inductive Dq (H : Hp) : V → PyData → Prop
  | non : Dq H .non .none
  | bl (b : Bool) : Dq H (.bl b) (.bool b)
  | int (i : Int) : Dq H (.int i) (.int i)
  | str (x : Str) : Dq H (.str x) (.str x)
  | lst {a : Addr} {xs : List V} {ds : List PyData} : H a = some (.lst xs) → DqAll H xs ds → Dq H (.ref a) (.list ds)
  | tup {a : Addr} {xs : List V} {ds : List PyData} : H a = some (.tup xs) → DqAll H xs ds → Dq H (.ref a) (.tuple ds)
  | ins {x C dx : Addr} {ws : List (Str × V)} {ns : List Str} {ds : List PyData} : H x = some (.ins C dx ws) → ws.map (·.1) = ns → DqAll H (ws.map (·.2)) ds → Dq H (.ref x) (.dict ((.none, .int (C : Nat)) :: (ns.map .str).zip ds))
  | dic {a : Addr} {kvs : List (Key × V)} {ks : List Key} {ds : List PyData} : H a = some (.dK kvs) → kvs.map (·.1) = ks → DqAll H (kvs.map (·.2)) ds → Dq H (.ref a) (.dict ((ks.map keyD).zip ds))
inductive DqAll (H : Hp) : List V → List PyData → Prop
  | nil : DqAll H [] []
  | cons {v : V} {vs : List V} {d : PyData} {ds : List PyData} : Dq H v d → DqAll H vs ds → DqAll H (v :: vs) (d :: ds)
end
section
variable {K : PySem.W.Frag} {H H' : Hp}
mutual
theorem Dq.dp (e : Same H H') : ∀ (d : PyData) (v : V), Dq H v d → d.canLay0 = true → Dp K H' v d
  | .none, _, h, _ => by cases h; exact .non
  | .bool b, _, h, _ => by cases h; exact .bl b
  | .int i, _, h, _ => by cases h; exact .int i
  | .str x, _, h, _ => by cases h; exact .str x
  | .list ds, _, h, c => by
    simp only [PyData.canLay0] at c
    cases h with
    | lst hs ha => exact .lst (SqL.of (e _ _ hs)) (DqAll.dp e ds _ ha c)
  | .tuple ds, _, h, c => by
    simp only [PyData.canLay0] at c
    cases h with
    | tup hs ha => exact .tup (SqT.of (e _ _ hs)) (DqAll.dp e ds _ ha c)
  | .dict _, _, _, c => by simp [PyData.canLay0] at c
theorem DqAll.dp (e : Same H H') : ∀ (ds : List PyData) (vs : List V), DqAll H vs ds → PyData.canLayAll0 ds = true → DpAll K H' vs ds
  | [], _, h, _ => by cases h; exact .nil
  | d :: ds, _, h, c => by
    simp only [PyData.canLayAll0, Bool.and_eq_true] at c
    cases h with
    | cons h1 h2 => exact .cons (Dq.dp e d _ h1 c.1) (DqAll.dp e ds _ h2 c.2)
end
end
section
variable {K : PySem.W.Frag} {H H' : Hp}
theorem dq_mono (e : Same H H') (d : PyData) (v : V) (h : Dq H v d) : Dq H' v d :=
  Dq.rec (motive_1 := fun v d _ => Dq H' v d) (motive_2 := fun vs ds _ => DqAll H' vs ds) .non (fun b => .bl b) (fun i => .int i) (fun x => .str x)
    (fun hs _ ih => .lst (e _ _ hs) ih) (fun hs _ ih => .tup (e _ _ hs) ih) (fun hx hn _ ih => .ins (e _ _ hx) hn ih) (fun hx hn _ ih => .dic (e _ _ hx) hn ih) .nil (fun _ _ i1 i2 => .cons i1 i2) h
theorem dqAll_mono (e : Same H H') : ∀ (ds : List PyData) (vs : List V), DqAll H vs ds → DqAll H' vs ds
  | [], _, h => by cases h; exact .nil
  | d :: ds, _, h => by
    cases h with
    | cons h1 h2 => exact .cons (dq_mono e d _ h1) (dqAll_mono e ds _ h2)
theorem dqAll_get : ∀ {vs : List V} {ds : List PyData} {i : Nat} {d : PyData}, DqAll H vs ds → ds[i]? = some d → ∃ v, vs[i]? = some v ∧ Dq H v d
  | [], _, i, d, h, e => by cases h; simp at e
  | v :: vs, _, 0, d, h, e => by
    cases h with
    | cons h1 h2 => simp at e; subst e; exact ⟨v, by simp, h1⟩
  | v :: vs, _, i + 1, d, h, e => by
    cases h with
    | cons h1 h2 =>
      obtain ⟨u, hu, hd⟩ := dqAll_get (i := i) h2 (by simpa using e)
      exact ⟨u, by simpa using hu, hd⟩
theorem dqAll_getV : ∀ {vs : List V} {ds : List PyData} {i : Nat} {v : V}, DqAll H vs ds → vs[i]? = some v → ∃ d, ds[i]? = some d ∧ Dq H v d
  | [], _, i, v, h, e => by simp at e
  | w :: vs, _, 0, v, h, e => by
    cases h with
    | cons h1 h2 => simp at e; subst e; exact ⟨_, by simp, h1⟩
  | w :: vs, _, i + 1, v, h, e => by
    cases h with
    | cons h1 h2 =>
      obtain ⟨u, hu, hd⟩ := dqAll_getV (i := i) h2 (by simpa using e)
      exact ⟨u, by simpa using hu, hd⟩
theorem dqAll_len : ∀ {vs : List V} {ds : List PyData}, DqAll H vs ds → vs.length = ds.length
  | [], _, h => by cases h; rfl
  | v :: vs, _, h => by
    cases h with
    | cons h1 h2 => simp [dqAll_len h2]
theorem dqAll_append : ∀ {vs ws : List V} {ds es : List PyData}, DqAll H vs ds → DqAll H ws es → DqAll H (vs ++ ws) (ds ++ es)
  | [], ws, _, es, h, g => by cases h; exact g
  | v :: vs, ws, _, es, h, g => by
    cases h with
    | cons h1 h2 => exact .cons h1 (dqAll_append h2 g)
theorem dqAll_take : ∀ (n : Nat) {vs : List V} {ds : List PyData}, DqAll H vs ds → DqAll H (vs.take n) (ds.take n)
  | 0, _, _, h => by simp; exact .nil
  | n + 1, [], _, h => by cases h; exact .nil
  | n + 1, v :: vs, _, h => by
    cases h with
    | cons h1 h2 => exact .cons h1 (dqAll_take n h2)
theorem dqAll_drop : ∀ (n : Nat) {vs : List V} {ds : List PyData}, DqAll H vs ds → DqAll H (vs.drop n) (ds.drop n)
  | 0, _, _, h => by simpa using h
  | n + 1, [], _, h => by cases h; exact .nil
  | n + 1, v :: vs, _, h => by
    cases h with
    | cons h1 h2 => simpa using dqAll_drop n h2
theorem dqAll_strs : ∀ (ys : List Str), DqAll H (ys.map V.str) (ys.map PyData.str)
  | [] => .nil
  | y :: ys => .cons (.str y) (dqAll_strs ys)
theorem dqAll_strs' : ∀ {ys : List Str} {vs : List V}, DqAll H vs (ys.map PyData.str) → vs = ys.map V.str
  | [], _, h => by cases h; rfl
  | y :: ys, _, h => by
    cases h with
    | cons h1 h2 => cases h1; rw [dqAll_strs' h2]; rfl
theorem dqAll_ints' : ∀ {ys : List Int} {vs : List V}, DqAll H vs (ys.map PyData.int) → vs = ys.map V.int
  | [], _, h => by cases h; rfl
  | y :: ys, _, h => by
    cases h with
    | cons h1 h2 => cases h1; rw [dqAll_ints' h2]; rfl
end
inductive Ent where
  | dat (d : PyData)
  | ptr (k : Nat)
  | obj (C : Addr) (fs : List (Str × PyData))
  | scr (ns : List Int)
  | raw (u : V)
  | exc (a d : Addr) (fs : List (Str × PyData))
noncomputable abbrev REnv := List (Option Ent)
noncomputable abbrev Sto := List (List PyData)
structure Wd where
  α : List Addr
  ξ : List Addr
noncomputable abbrev Wd.all (w : Wd) : List Addr := w.α ++ w.ξ
noncomputable def Val (K : PySem.W.Frag) (H : Hp) (w : Wd) (v : V) : Ent → Prop
  | .dat d => Dq (dl H w.all) v d
  | .ptr k => ∃ a, w.α[k]? = some a ∧ v = .ref a
  | .obj C fs => ∃ x dx ws, v = .ref x ∧ dl H w.all x = some (.ins C dx ws) ∧ ws.map (·.1) = fs.map (·.1) ∧ DqAll (dl H w.all) (ws.map (·.2)) (fs.map (·.2))
  | .scr ns => ∃ a, v = .ref a ∧ SqL K (dl H w.all) a (ns.map V.int)
  | .raw u => v = u
  | .exc a d fs => v = .ref a ∧ ∃ ws, dl H w.all d = some (.xd ws) ∧ ws.map (·.1) = fs.map (·.1) ∧ DqAll (dl H w.all) (ws.map (·.2)) (fs.map (·.2))
noncomputable def obD (C : Addr) (fs : List (Str × PyData)) : PyData := .dict ((.none, .int (C : Nat)) :: ((fs.map (·.1)).map .str).zip (fs.map (·.2)))
theorem val_obD {K : PySem.W.Frag} {H : Hp} {w : Wd} {v : V} {C : Addr} {fs : List (Str × PyData)} (h : Val K H w v (.obj C fs)) : Val K H w v (.dat (obD C fs)) := by
  obtain ⟨x, dx, ws, rfl, hx, hn, hd⟩ := h
  exact Dq.ins hx hn hd
theorem zip_inj : ∀ {ns ms : List Str} {ds es : List PyData}, ns.length = ds.length → ms.length = es.length → (ns.map PyData.str).zip ds = (ms.map PyData.str).zip es → ns = ms ∧ ds = es
  | [], [], [], [], _, _, _ => ⟨rfl, rfl⟩
  | [], m :: ms, [], e :: es, _, _, h => by simp at h
  | n :: ns, [], d :: ds, [], _, _, h => by simp at h
  | n :: ns, m :: ms, d :: ds, e :: es, h1, h2, h => by
    simp only [List.map_cons, List.zip_cons_cons, List.cons.injEq, Prod.mk.injEq, PyData.str.injEq] at h
    obtain ⟨⟨rfl, rfl⟩, h⟩ := h
    obtain ⟨rfl, rfl⟩ := zip_inj (by simpa using h1) (by simpa using h2) h
    exact ⟨rfl, rfl⟩
  | [], _, _ :: _, _, h1, _, _ => by simp at h1
  | _ :: _, _, [], _, h1, _, _ => by simp at h1
  | _, [], _, _ :: _, _, h2, _ => by simp at h2
  | _, _ :: _, _, [], _, h2, _ => by simp at h2
theorem val_obj {K : PySem.W.Frag} {H : Hp} {w : Wd} {v : V} {C : Addr} {fs : List (Str × PyData)} (h : Val K H w v (.dat (obD C fs))) : Val K H w v (.obj C fs) := by
  have h' : Dq (dl H w.all) v (obD C fs) := h
  unfold obD at h'
  generalize e : PyData.dict ((PyData.none, PyData.int (C : Nat)) :: ((fs.map (·.1)).map PyData.str).zip (fs.map (·.2))) = d at h'
  cases h' with
  | @ins x C' dx ws ns ds hx hn hd =>
    injection e with e
    injection e with e1 e2
    injection e1 with _ e1
    injection e1 with e1
    have hl : ns.length = ds.length := by rw [← hn, List.length_map, ← dqAll_len hd, List.length_map]
    obtain ⟨q1, q2⟩ := zip_inj (by simp) hl e2
    have : C = C' := by exact Int.ofNat.inj e1
    subst this
    subst q2
    exact ⟨x, dx, ws, rfl, hx, by rw [hn, q1], hd⟩
  | @dic a kvs ks ds hx hn hd =>
    exfalso
    injection e with e
    cases ks with
    | nil => simp at e
    | cons k ks =>
      cases ds with
      | nil => simp at e
      | cons d ds =>
        simp only [List.map_cons, List.zip_cons_cons, List.cons.injEq, Prod.mk.injEq] at e
        obtain ⟨⟨e, _⟩, _⟩ := e
        cases k <;> cases e
  | _ => cases e
structure Mem (K : PySem.W.Frag) (H : Hp) (w : Wd) (μ : Sto) : Prop where
  nd : w.α.Nodup
  len : w.α.length = μ.length
  cell : ∀ (k : Nat) (a : Addr) (xs : List PyData), w.α[k]? = some a → μ[k]? = some xs → ∃ vs, H a = some (.lst vs) ∧ DqAll (dl H w.all) vs xs
  out : ∀ b ∈ w.ξ, b ∉ w.α
  ext : ∀ b ∈ w.ξ, ∃ o, H b = some o ∧ Pl o
  tab : LamX.Tabs (tabsK K) H
structure Sl (K : PySem.W.Frag) (H : Hp) (w : Wd) (σ : L2.St) (ρ : REnv) : Prop where
  len : σ.length = ρ.length
  at_ : ∀ (i : Nat) (r : Ent), ρ[i]? = some (some r) → ∃ v, σ[i]? = some (some v) ∧ Val K H w v r
section
variable {K : PySem.W.Frag} {H H' : Hp} {w : Wd} {μ : Sto} {σ : L2.St} {ρ : REnv} {v : V} {r : Ent}
theorem Fr.all (f : Fr w.α H H') : Same (dl H w.all) (dl H' w.all) := f.sameDl fun b h => List.mem_append_left _ h
theorem Val.same (h : Val K H w v r) (f : Same (dl H w.all) (dl H' w.all)) : Val K H' w v r := by
  cases r with
  | dat d => exact dq_mono f d v h
  | ptr k => exact h
  | obj C fs =>
    obtain ⟨x, dx, ws, e, hx, hn, hd⟩ := h
    exact ⟨x, dx, ws, e, f _ _ hx, hn, dqAll_mono f _ _ hd⟩
  | scr ns =>
    obtain ⟨a, e, hs⟩ := h
    exact ⟨a, e, Same.seq f hs⟩
  | raw u => exact h
  | exc a d fs =>
    obtain ⟨e, ws, hx, hn, hd⟩ := h
    exact ⟨e, ws, f _ _ hx, hn, dqAll_mono f _ _ hd⟩
theorem Val.fr (h : Val K H w v r) (f : Fr w.α H H') : Val K H' w v r := h.same f.all
theorem Sl.same (h : Sl K H w σ ρ) (f : Same (dl H w.all) (dl H' w.all)) : Sl K H' w σ ρ := ⟨h.len, fun i r e => let ⟨v, a, b⟩ := h.at_ i r e; ⟨v, a, b.same f⟩⟩
theorem Sl.fr (h : Sl K H w σ ρ) (f : Fr w.α H H') : Sl K H' w σ ρ := h.same f.all
theorem Sl.set {i : Nat} (h : Sl K H w σ ρ) (hv : Val K H w v r) : Sl K H w (σ.set i (some v)) (ρ.set i (some r)) := by
  refine ⟨by simp [h.len], fun j q e => ?_⟩
  by_cases hj : i = j
  · subst hj
    rw [List.getElem?_set] at e
    rw [List.getElem?_set]
    by_cases hi : i < ρ.length
    · simp [hi] at e
      have hi' : i < σ.length := by rw [h.len]; exact hi
      subst e
      exact ⟨v, by simp [hi'], hv⟩
    · simp [hi] at e
  · rw [List.getElem?_set_ne hj] at e
    rw [List.getElem?_set_ne hj]
    exact h.at_ j q e
theorem Mem.there (m : Mem K H w μ) {b : Addr} (hb : b ∈ w.α) : ∃ vs, H b = some (.lst vs) := by
  obtain ⟨k, hk, e⟩ := List.mem_iff_getElem.mp hb
  have hk' : k < μ.length := by rw [← m.len]; exact hk
  obtain ⟨vs, h, _⟩ := m.cell k b μ[k] (by simp [hk, e]) (by simp [hk'])
  exact ⟨vs, h⟩
theorem Mem.fresh (m : Mem K H w μ) {p : Addr} (hp : H p = none) : p ∉ w.α := fun h => by
  obtain ⟨vs, e⟩ := m.there h
  rw [hp] at e; cases e
theorem Mem.same (m : Mem K H w μ) (f : Same H H') : Mem K H' w μ := by
  refine ⟨m.nd, m.len, fun k a xs h1 h2 => ?_, m.out, fun b hb => (m.ext b hb).elim fun o e => ⟨o, f _ _ e.1, e.2⟩, m.tab.ext f⟩
  obtain ⟨vs, h, d⟩ := m.cell k a xs h1 h2
  exact ⟨vs, f _ _ h, dqAll_mono (Fr.all (w := w) (Fr.of_same f)) _ _ d⟩
theorem Mem.freshA (m : Mem K H w μ) {p : Addr} (hp : H p = none) : p ∉ w.all := fun h => by
  rcases List.mem_append.mp h with h | h
  · exact m.fresh hp h
  · obtain ⟨o, e, _⟩ := m.ext p h
    rw [hp] at e; cases e
theorem Mem.freshN (m : Mem K H w μ) {p : Addr} (hp : Nw H p) : p ∉ w.all := fun h => by
  rcases List.mem_append.mp h with h | h
  · obtain ⟨vs, e⟩ := m.there h
    exact hp _ e (fun q z => by cases z)
  · obtain ⟨o, e, po⟩ := m.ext p h
    exact hp _ e po.1
theorem Mem.ex1 (m : Mem K H w μ) {b : Addr} (h : b ∈ w.ξ) : ∃ o, H b = some o := (m.ext b h).elim fun o e => ⟨o, e.1⟩
theorem Mem.new (m : Mem K H w μ) {p : Addr} {o : HO} (hp : H p = none) : Mem K (upd H p o) w μ := m.same (Same.new hp)
end
noncomputable abbrev wk' (w : Wd) (D : Addr) : Wd := ⟨w.α, D :: w.ξ⟩
theorem all_wk' {w : Wd} {D b : Addr} : b ∈ (wk' w D).all ↔ b = D ∨ b ∈ w.all := by
  simp only [Wd.all, List.mem_append, List.mem_cons]
  constructor
  · rintro (h | h | h)
    · exact .inr (.inl h)
    · exact .inl h
    · exact .inr (.inr h)
  · rintro (h | h | h)
    · exact .inr (.inl h)
    · exact .inl h
    · exact .inr (.inr h)
theorem keep_outN {K : PySem.W.Frag} {H H' : Hp} {w : Wd} {D : Addr} (hD : Nw H D) (f : Fr w.α H H') (hk : ∃ o, H' D = some o) : Same (dl H w.all) (dl H' (wk' w D).all) := fun b o hb => by
  have nt := dl_nt hb
  obtain ⟨n1, e1⟩ := dl_some hb
  exact dl_of (fun z => (all_wk'.mp z).elim (Nw.ne e1 nt hD) n1) (f b o e1 (fun z => n1 (List.mem_append_left _ z)) nt) nt
theorem keep_out {K : PySem.W.Frag} {H H' : Hp} {w : Wd} {D : Addr} (hD : H D = none) (f : Fr w.α H H') (hk : ∃ o, H' D = some o) : Same (dl H w.all) (dl H' (wk' w D).all) := fun b o hb => by
  have nt := dl_nt hb
  obtain ⟨n1, e1⟩ := dl_some hb
  have nb : b ≠ D := ne_of_none e1 hD
  exact dl_of (fun z => (all_wk'.mp z).elim nb n1) (f b o e1 (fun z => n1 (List.mem_append_left _ z)) nt) nt
theorem Mem.keep {K : PySem.W.Frag} {H : Hp} {w : Wd} {D : Addr} {o : HO} {μ : Sto} (m : Mem K H w μ) (hD : H D = none) (po : Pl o := by exact ⟨(fun q z => by cases z), (fun q z => by cases z)⟩) : Mem K (upd H D o) (wk' w D) μ := by
  have f : Fr w.α H (upd H D o) := Fr.of_same (Same.new hD)
  have g := keep_out (K := K) (H := H) (H' := upd H D o) (w := w) hD f ⟨o, upd_same⟩
  refine ⟨m.nd, m.len, fun k a xs h1 h2 => ?_, fun b hb => ?_, fun b hb => ?_, m.tab.ext (Same.new hD)⟩
  · obtain ⟨vs, e, hd⟩ := m.cell k a xs h1 h2
    exact ⟨vs, Same.new hD _ _ e, dqAll_mono g _ _ hd⟩
  · rcases List.mem_cons.mp hb with rfl | hb
    · exact m.fresh hD
    · exact m.out b hb
  · rcases List.mem_cons.mp hb with rfl | hb
    · exact ⟨o, upd_same, po⟩
    · obtain ⟨u, e, pu⟩ := m.ext b hb
      exact ⟨u, Same.new hD _ _ e, pu⟩
theorem Mem.outs {K : PySem.W.Frag} {H : Hp} {w : Wd} {D : Addr} {o : HO} {μ : Sto} (m : Mem K H (wk' w D) μ) (po : Pl o := by exact ⟨(fun q z => by cases z), (fun q z => by cases z)⟩) : Mem K (upd H D o) (wk' w D) μ := by
  have hDa : D ∉ w.α := m.out D List.mem_cons_self
  have g : Same (dl H (wk' w D).all) (dl (upd H D o) (wk' w D).all) := fun b u hb => by
    have nt := dl_nt hb
    obtain ⟨n1, e1⟩ := dl_some hb
    exact dl_of n1 (by rw [upd_ne fun z => n1 (all_wk'.mpr (.inl z))]; exact e1) nt
  refine ⟨m.nd, m.len, fun k a xs h1 h2 => ?_, m.out, fun b hb => ?_, tabs_upd m.tab fun u e => ?_⟩
  · obtain ⟨vs, e, hd⟩ := m.cell k a xs h1 h2
    refine ⟨vs, ?_, dqAll_mono g _ _ hd⟩
    have na : a ≠ D := fun z => hDa (by rw [← z]; exact List.mem_iff_getElem?.mpr ⟨k, h1⟩)
    rw [upd_ne na]
    exact e
  · by_cases hb' : b = D
    · rw [hb']
      exact ⟨o, upd_same, po⟩
    · obtain ⟨u, e, pu⟩ := m.ext b hb
      exact ⟨u, by rw [upd_ne hb']; exact e, pu⟩
  · obtain ⟨u', e', pu⟩ := m.ext D List.mem_cons_self
    rw [e] at e'
    cases e'
    exact pu
theorem same_outs {H : Hp} {w : Wd} {D : Addr} {o : HO} : Same (dl H (wk' w D).all) (dl (upd H D o) (wk' w D).all) := fun b u hb => by
  have nt := dl_nt hb
  obtain ⟨n1, e1⟩ := dl_some hb
  exact dl_of n1 (by rw [upd_ne fun z => n1 (all_wk'.mpr (.inl z))]; exact e1) nt
theorem Mem.unkeep {K : PySem.W.Frag} {H : Hp} {w : Wd} {D : Addr} {μ : Sto} (m : Mem K H (wk' w D) μ) : Mem K H w μ :=
  ⟨m.nd, m.len, fun k a xs h1 h2 => let ⟨vs, e, hd⟩ := m.cell k a xs h1 h2; ⟨vs, e, dqAll_mono (dl_sub fun b hb => all_wk'.mpr (.inr hb)) _ _ hd⟩, fun b hb => m.out b (List.mem_cons_of_mem _ hb), fun b hb => m.ext b (List.mem_cons_of_mem _ hb), m.tab⟩
section
variable (X : Cx)
noncomputable def EX (e : Expr) : TE := fun σ H Q => ∃ t, PE X e t ∧ t σ H Q
noncomputable def TX (e : Expr) : TT := fun σ H Q => ∃ t, PT X e t ∧ t σ H Q
noncomputable def AX (es : List Expr) : TA := fun σ H Q => ∃ t, PA X es t ∧ t σ H Q
noncomputable def GX (e : Expr) : TG := fun v σ H Q => ∃ t, PG X e t ∧ t v σ H Q
noncomputable def GsX (e : List Expr) : TGs := fun v σ H Q => ∃ t, PGs X e t ∧ t v σ H Q
noncomputable def IX (tg iter : Expr) : TI := fun σ H R => ∃ t, PI X tg iter t ∧ t σ H R
noncomputable def OX (e : Option Expr) : TO := fun σ H Q => ∃ t, PO X e t ∧ t σ H Q
noncomputable def SX (st : List Stmt) : TS := fun D σ H => ∃ t, PSs X st t ∧ t D σ H
end
section
variable {X : Cx}
theorem p_ex {e : Expr} : PE X e (EX X e) := ⟨fun pins s σ H Q I h => let ⟨_, p, q⟩ := h; p.run pins s σ H Q I q⟩
theorem p_tx {e : Expr} : PT X e (TX X e) := ⟨fun pins s σ H Q I h => let ⟨_, p, q⟩ := h; p.run pins s σ H Q I q⟩
theorem p_ax {e : List Expr} : PA X e (AX X e) := ⟨fun pos pins s σ H Q I h => let ⟨_, p, q⟩ := h; p.run pos pins s σ H Q I q⟩
theorem p_gx {e : Expr} : PG X e (GX X e) := ⟨fun pins s σ H v u Q I r h => let ⟨_, p, q⟩ := h; p.run pins s σ H v u Q I r q⟩
theorem p_gsx {e : List Expr} : PGs X e (GsX X e) := ⟨fun pins s σ H v u Q I r h => let ⟨_, p, q⟩ := h; p.run pins s σ H v u Q I r q⟩
theorem p_ix {tg e : Expr} : PI X tg e (IX X tg e) := ⟨fun pins s σ H Q I h => let ⟨_, p, q⟩ := h; p.run pins s σ H Q I q⟩
theorem p_ox {e : Option Expr} : PO X e (OX X e) := ⟨fun pins s σ H Q I h => let ⟨_, p, q⟩ := h; p.run pins s σ H Q I q⟩
theorem p_sx {e : List Stmt} : PSs X e (SX X e) := ⟨fun pins s σ H D I h => let ⟨_, p, q⟩ := h; p.run pins s σ H D I q⟩
end
section
variable (X : Cx)
noncomputable def EV (e : Expr) (ρ : REnv) (μ : Sto) (r : Ent) (μ' : Sto) : Prop :=
  ∀ w σ H, Mem X.K H w μ → Sl X.K H w σ ρ → ∀ Q : VK, (∀ v H', Mem X.K H' w μ' → Fr w.α H H' → Val X.K H' w v r → Q v H') → EX X e σ H Q
noncomputable def EVF (e : Expr) (ρ : REnv) (μ : Sto) (xs : List PyData) (μ' : Sto) : Prop :=
  ∀ w σ H, Mem X.K H w μ → Sl X.K H w σ ρ → ∀ Q : VK, (∀ p H' vs, Mem X.K H' (wk' w p) μ' → Fr w.α H H' → Nw H p → H' p = some (.lst vs) → DqAll (dl H' (wk' w p).all) vs xs → Q (.ref p) H') → EX X e σ H Q
noncomputable def TV (e : Expr) (ρ : REnv) (μ : Sto) (b : Bool) (μ' : Sto) : Prop :=
  ∀ w σ H, Mem X.K H w μ → Sl X.K H w σ ρ → ∀ Q : Bool → Hp → Prop, (∀ H', Mem X.K H' w μ' → Fr w.α H H' → Q b H') → TX X e σ H Q
theorem EV.obd {X : Cx} {e : Expr} {ρ : REnv} {μ μ1 : Sto} {C : Addr} {fs : List (Str × PyData)} (h : EV X e ρ μ (.obj C fs) μ1) : EV X e ρ μ (.dat (obD C fs)) μ1 := fun w σ H m s Q q => h w σ H m s Q fun v H' m' f hv => q v H' m' f (val_obD hv)
theorem EV.dob {X : Cx} {e : Expr} {ρ : REnv} {μ μ1 : Sto} {C : Addr} {fs : List (Str × PyData)} (h : EV X e ρ μ (.dat (obD C fs)) μ1) : EV X e ρ μ (.obj C fs) μ1 := fun w σ H m s Q q => h w σ H m s Q fun v H' m' f hv => q v H' m' f (val_obj hv)
noncomputable def Vas (K : PySem.W.Frag) (H : Hp) (w : Wd) (vs : List V) (rs : List Ent) : Prop := vs.length = rs.length ∧ ∀ (i : Nat) v r, vs[i]? = some v → rs[i]? = some r → Val K H w v r
noncomputable def AV (e : List Expr) (ρ : REnv) (μ : Sto) (rs : List Ent) (μ' : Sto) : Prop :=
  ∀ w σ H, Mem X.K H w μ → Sl X.K H w σ ρ → ∀ Q : List V → Hp → Prop, (∀ vs H', Mem X.K H' w μ' → Fr w.α H H' → Vas X.K H' w vs rs → Q vs H') → AX X e σ H Q
end
theorem Vas.nil {K : PySem.W.Frag} {H : Hp} {w : Wd} : Vas K H w [] [] := ⟨rfl, fun i v r a b => by simp at a⟩
theorem Vas.cons {K : PySem.W.Frag} {H : Hp} {w : Wd} {v : V} {vs : List V} {r : Ent} {rs : List Ent} (a : Val K H w v r) (h : Vas K H w vs rs) : Vas K H w (v :: vs) (r :: rs) := by
  refine ⟨by simp [h.1], fun i x y hx hy => ?_⟩
  cases i with
  | zero => simp at hx hy; subst hx; subst hy; exact a
  | succ i => simp at hx hy; exact h.2 i x y hx hy
theorem Vas.inv {K : PySem.W.Frag} {H : Hp} {w : Wd} {vs : List V} {r : Ent} {rs : List Ent} (h : Vas K H w vs (r :: rs)) : ∃ v us, vs = v :: us ∧ Val K H w v r ∧ Vas K H w us rs := by
  obtain ⟨hl, ha⟩ := h
  cases vs with
  | nil => simp at hl
  | cons v us =>
    refine ⟨v, us, rfl, ha 0 v r (by simp) (by simp), by simpa using hl, fun i x y hx hy => ha (i + 1) x y (by simpa using hx) (by simpa using hy)⟩
theorem Vas.inv0 {K : PySem.W.Frag} {H : Hp} {w : Wd} {vs : List V} (h : Vas K H w vs []) : vs = [] := by
  obtain ⟨hl, ha⟩ := h
  cases vs with
  | nil => rfl
  | cons v us => simp at hl
noncomputable abbrev Ii (i : Int) : Ent := .dat (.int i)
noncomputable abbrev Ss (s : Str) : Ent := .dat (.str s)
noncomputable abbrev Bb (b : Bool) : Ent := .dat (.bool b)
noncomputable abbrev Nn : Ent := .dat .none
noncomputable abbrev Ls (ds : List PyData) : Ent := .dat (.list ds)
noncomputable abbrev Tp (ds : List PyData) : Ent := .dat (.tuple ds)
noncomputable def R2V (K : PySem.W.Frag) (r : R2) (x y z : Ent) (μ : Sto) : Prop := ∀ w H v u, Mem K H w μ → Val K H w v x → Val K H w u y → ∀ Q : VK, (∀ t H', Mem K H' w μ → Fr w.α H H' → Val K H' w t z → Q t H') → r v u H Q
section
variable {X : Cx} {ρ : REnv} {μ μ1 μ2 μ3 : Sto} {x y z r : Ent} {a b c e : Expr} {pos p2 : Pos}
theorem EV.name {i : Nat} {n : Str} (hN : X.N[i]? = some n) (hv : Vis X.env.scope n) (h : ρ[i]? = some (some r)) (hd : (n == ("__debug__" : Str)) = false := by decide) (hcd : (n == ("__classdict__" : Str)) = false := by decide) : EV X (.Name n pos) ρ μ r μ := by
  intro w σ H m s Q q
  obtain ⟨v, e, hr⟩ := s.at_ i r h
  exact ⟨_, pe_var hN hv hd hcd, v, e, q v H m .refl hr⟩
theorem EV.int {i : Int} {j} : EV X (.Constant (.int i) j pos) ρ μ (Ii i) μ := fun w σ H m s Q q => ⟨_, pe_int, q _ _ m .refl (Dq.int i)⟩
theorem EV.str {i : Str} {j} : EV X (.Constant (.str i) j pos) ρ μ (Ss i) μ := fun w σ H m s Q q => ⟨_, pe_str, q _ _ m .refl (Dq.str i)⟩
theorem EV.bl {i : Bool} {j} : EV X (.Constant (.bool i) j pos) ρ μ (Bb i) μ := fun w σ H m s Q q => ⟨_, pe_bl, q _ _ m .refl (Dq.bl i)⟩
theorem EV.non {j} : EV X (.Constant .none j pos) ρ μ Nn μ := fun w σ H m s Q q => ⟨_, pe_non, q _ _ m .refl Dq.non⟩
theorem EV.eq {z' : Ent} (h : EV X e ρ μ z μ1) (q : z = z') : EV X e ρ μ z' μ1 := q ▸ h
theorem EV.op {op : Operator} {r : R2} (ho : OpR X (binaryOp op) r) (ha : EV X a ρ μ x μ1) (hb : EV X b ρ μ1 y μ2) (hr : R2V X.K r x y z μ2) : EV X (.BinOp a op b pos) ρ μ z μ2 := by
  intro w σ H m s Q q
  refine ⟨_, pe_op ho (p_ex (e := a)) (p_ex (e := b)), ?_⟩
  refine ha w σ H m s _ fun v H1 m1 f1 h1 => ?_
  refine hb w σ H1 m1 (s.fr f1) _ fun u H2 m2 f2 h2 => ?_
  exact hr w H2 v u m2 (h1.fr f2) h2 Q fun t H3 m3 f3 h3 => q t H3 m3 ((f1.trans f2).trans f3) h3
theorem EV.cmp {op : CmpOp} {r : R2} (ho : OpR X (compareOp op) r) (hm : behindInMarks op b = false) (ha : EV X a ρ μ x μ1) (hb : EV X b ρ μ1 y μ2) (hr : R2V X.K r x y z μ2) : EV X (.Compare a [op] [b] pos) ρ μ z μ2 := by
  intro w σ H m s Q q
  refine ⟨_, pe_cmpR ho (p_ex (e := a)) (p_ex (e := b)) hm, ?_⟩
  refine ha w σ H m s _ fun v H1 m1 f1 h1 => ?_
  refine hb w σ H1 m1 (s.fr f1) _ fun u H2 m2 f2 h2 => ?_
  exact hr w H2 v u m2 (h1.fr f2) h2 Q fun t H3 m3 f3 h3 => q t H3 m3 ((f1.trans f2).trans f3) h3
theorem TV.cmp {op : CmpOp} {r : R2} {k : Bool} (ho : OpR X (compareOp op) r) (hm : behindInMarks op b = false) (ha : EV X a ρ μ x μ1) (hb : EV X b ρ μ1 y μ2) (hr : R2V X.K r x y (Bb k) μ2) : TV X (.Compare a [op] [b] pos) ρ μ k μ2 := by
  intro w σ H m s Q q
  refine ⟨_, pt_cmpR ho (p_ex (e := a)) (p_ex (e := b)) hm, ?_⟩
  refine ha w σ H m s _ fun v H1 m1 f1 h1 => ?_
  refine hb w σ H1 m1 (s.fr f1) _ fun u H2 m2 f2 h2 => ?_
  refine hr w H2 v u m2 (h1.fr f2) h2 _ fun t H3 m3 f3 h3 => ?_
  cases h3
  exact ⟨k, rfl, q H3 m3 ((f1.trans f2).trans f3)⟩
theorem TV.val {k : Bool} (h : EV X e ρ μ (Bb k) μ1) (he : ∀ whole, isTrue e X.env whole = (do let v ← whole; standAt e.pos; holding [v] (truthy v)) := by intro _; rfl) : TV X e ρ μ k μ1 := by
  intro w σ H m s Q q
  refine ⟨_, pt_val (p_ex (e := e)) he, ?_⟩
  refine h w σ H m s _ fun v H1 m1 f1 h1 => ?_
  cases h1
  exact ⟨k, rfl, q H1 m1 f1⟩
theorem TV.not {k : Bool} (h : TV X a ρ μ k μ1) : TV X (.UnaryOp .Not a pos) ρ μ (!k) μ1 := by
  intro w σ H m s Q q
  refine ⟨_, pt_not (p_tx (e := a)), ?_⟩
  exact h w σ H m s _ fun H1 m1 f1 => q H1 m1 f1
theorem TV.eq {k k' : Bool} (h : TV X e ρ μ k μ1) (q : k = k') : TV X e ρ μ k' μ1 := q ▸ h
noncomputable def WV (X : Cx) (e : Expr) (ρ : REnv) (μ : Sto) (b : Bool) (μ' : Sto) : Prop :=
  ∀ w σ H, Mem X.K H w μ → Sl X.K H w σ ρ → ∀ Q : Bool → Hp → Prop, (∀ H', Mem X.K H' w μ' → Fr w.α H H' → Q b H') → ∃ t, PW X e t ∧ t σ H Q
theorem pw_any {e : Expr} : PW X e (fun σ H Q => ∃ t, PW X e t ∧ t σ H Q) := ⟨fun wh pins s σ H Q I h => let ⟨_, p, q⟩ := h; p.run wh pins s σ H Q I q⟩
theorem WV.tv {k : Bool} (h : WV X e ρ μ k μ1) : TV X e ρ μ k μ1 := fun w σ H m s Q q => let ⟨t, p, r⟩ := h w σ H m s Q q; ⟨t, p.pt, r⟩
theorem WV.and1 {k : Bool} (h : TV X a ρ μ k μ1) : WV X (.BoolOp .And [a] pos) ρ μ k μ1 := fun w σ H m s Q q => ⟨_, pw_and1 (p_tx (e := a)), h w σ H m s Q q⟩
theorem WV.or1 {k : Bool} (h : TV X a ρ μ k μ1) : WV X (.BoolOp .Or [a] pos) ρ μ k μ1 := fun w σ H m s Q q => ⟨_, pw_or1 (p_tx (e := a)), h w σ H m s Q q⟩
theorem WV.and {k l : Bool} {es : List Expr} (h : TV X a ρ μ k μ1) (h0 : k = false → μ2 = μ1 ∧ l = false) (h2 : k = true → WV X (.BoolOp .And (b :: es) pos) ρ μ1 l μ2) : WV X (.BoolOp .And (a :: b :: es) pos) ρ μ l μ2 := by
  intro w σ H m s Q q
  refine ⟨_, pw_and (p_tx (e := a)) (pw_any (e := .BoolOp .And (b :: es) pos)), ?_⟩
  refine h w σ H m s _ fun H1 m1 f1 => ?_
  cases k with
  | true =>
    refine iteT ?_
    exact h2 rfl w σ H1 m1 (s.fr f1) Q fun H2 m2 f2 => q H2 m2 (f1.trans f2)
  | false =>
    refine iteF ?_
    obtain ⟨rfl, rfl⟩ := h0 rfl
    exact q H1 m1 f1
theorem WV.or {k l : Bool} {es : List Expr} (h : TV X a ρ μ k μ1) (h0 : k = true → μ2 = μ1 ∧ l = true) (h2 : k = false → WV X (.BoolOp .Or (b :: es) pos) ρ μ1 l μ2) : WV X (.BoolOp .Or (a :: b :: es) pos) ρ μ l μ2 := by
  intro w σ H m s Q q
  refine ⟨_, pw_or (p_tx (e := a)) (pw_any (e := .BoolOp .Or (b :: es) pos)), ?_⟩
  refine h w σ H m s _ fun H1 m1 f1 => ?_
  cases k with
  | false =>
    refine iteF ?_
    exact h2 rfl w σ H1 m1 (s.fr f1) Q fun H2 m2 f2 => q H2 m2 (f1.trans f2)
  | true =>
    refine iteT ?_
    obtain ⟨rfl, rfl⟩ := h0 rfl
    exact q H1 m1 f1
theorem EV.one {op} (h : EV X a ρ μ x μ1) : EV X (.BoolOp op [a] pos) ρ μ x μ1 := fun w σ H m s Q q => ⟨_, pe_one (p_ex (e := a)), h w σ H m s Q q⟩
theorem EV.and {k : Bool} {es : List Expr} (h : EV X a ρ μ (Bb k) μ1) (h0 : k = false → μ2 = μ1 ∧ z = Bb false) (h2 : k = true → EV X (.BoolOp .And (b :: es) pos) ρ μ1 z μ2) : EV X (.BoolOp .And (a :: b :: es) pos) ρ μ z μ2 := by
  intro w σ H m s Q q
  refine ⟨_, pe_and (p_ex (e := a)) (p_ex (e := .BoolOp .And (b :: es) pos)), ?_⟩
  refine h w σ H m s _ fun v H1 m1 f1 h1 => ?_
  cases h1
  refine ⟨k, rfl, ?_⟩
  cases k with
  | true =>
    refine iteT ?_
    exact h2 rfl w σ H1 m1 (s.fr f1) Q fun v H2 m2 f2 => q v H2 m2 (f1.trans f2)
  | false =>
    refine iteF ?_
    obtain ⟨rfl, rfl⟩ := h0 rfl
    exact q _ H1 m1 f1 (Dq.bl false)
theorem EV.not {k : Bool} (h : EV X a ρ μ (Bb k) μ1) : EV X (.UnaryOp .Not a pos) ρ μ (Bb !k) μ1 := by
  intro w σ H m s Q q
  refine ⟨_, pe_not (p_ex (e := a)), ?_⟩
  refine h w σ H m s _ fun v H1 m1 f1 h1 => ?_
  cases h1
  exact ⟨k, rfl, q _ H1 m1 f1 (Dq.bl _)⟩
theorem EV.ifx {k : Bool} (hc : TV X c ρ μ k μ1) (h1 : k = true → EV X a ρ μ1 z μ2) (h2 : k = false → EV X b ρ μ1 z μ2) : EV X (.IfExp c a b pos) ρ μ z μ2 := by
  intro w σ H m s Q q
  refine ⟨_, pe_ifExp (p_tx (e := c)) (p_ex (e := a)) (p_ex (e := b)), ?_⟩
  refine hc w σ H m s _ fun H1 m1 f1 => ?_
  cases k with
  | true => exact iteT (h1 rfl w σ H1 m1 (s.fr f1) Q fun v H2 m2 f2 => q v H2 m2 (f1.trans f2))
  | false => exact iteF (h2 rfl w σ H1 m1 (s.fr f1) Q fun v H2 m2 f2 => q v H2 m2 (f1.trans f2))
theorem AV.nil : AV X [] ρ μ [] μ := fun w σ H m s Q q => ⟨_, pa_nil, q [] H m .refl .nil⟩
theorem AV.cons {es : List Expr} {rs : List Ent} (h : EV X e ρ μ x μ1) (hr : AV X es ρ μ1 rs μ2) (hs : starEach (e :: es) X.env = (false, eval e X.env) :: starEach es X.env := by rfl) : AV X (e :: es) ρ μ (x :: rs) μ2 := by
  intro w σ H m s Q q
  refine ⟨_, pa_cons (p_ex (e := e)) (p_ax (e := es)) hs, ?_⟩
  refine h w σ H m s _ fun v H1 m1 f1 h1 => ?_
  refine hr w σ H1 m1 (s.fr f1) _ fun vs H2 m2 f2 h2 => ?_
  exact q (v :: vs) H2 m2 (f1.trans f2) (.cons (h1.fr f2) h2)
end
noncomputable def dats (rs : List PyData) : List Ent := rs.map .dat
theorem Vas.dats {K : PySem.W.Frag} {H : Hp} {w : Wd} : ∀ {ds : List PyData} {vs : List V}, Vas K H w vs (dats ds) → DqAll (dl H w.all) vs ds
  | [], vs, h => by rw [Vas.inv0 h]; exact .nil
  | d :: ds, vs, h => by
    obtain ⟨v, us, rfl, h1, h2⟩ := Vas.inv h
    exact .cons h1 (Vas.dats h2)
section
variable {X : Cx} {ρ : REnv} {μ μ1 μ2 μ3 : Sto} {ds : List PyData} {es : List Expr} {pos : Pos} {K : PySem.W.Frag} {H : Hp} {w : Wd}
theorem dl_new {p : Addr} {o : HO} {S : List Addr} (hp : H p = none) : Same (dl H S) (dl (upd H p o) S) := (Fr.of_same (S := S) (Same.new hp)).sameDl fun _ h => h
theorem val_tup {p : Addr} {vs : List V} (m : Mem K H w μ) (hp : H p = none) (h : DqAll (dl H w.all) vs ds) : Val K (upd H p (.tup vs)) w (.ref p) (Tp ds) := by
  have hn : p ∉ w.all := m.freshA hp
  exact Dq.tup (dl_of hn upd_same) (dqAll_mono (dl_new hp) _ _ h)
theorem val_lst {p : Addr} {vs : List V} (m : Mem K H w μ) (hp : H p = none) (h : DqAll (dl H w.all) vs ds) : Val K (upd H p (.lst vs)) w (.ref p) (Ls ds) := by
  have hn : p ∉ w.all := m.freshA hp
  exact Dq.lst (dl_of hn upd_same) (dqAll_mono (dl_new hp) _ _ h)
end
end J
namespace J
open PySem PySem.Spec
open PyProof.Rows L2
section
variable {K : PySem.W.Frag} {μ : Sto} {i j : Int} {s t : Str} {ds es : List PyData} {d e : PyData} {b k : Bool}
theorem r2v_pure {r : R2} {x y z : Ent} (h : ∀ w H v u, Mem K H w μ → Val K H w v x → Val K H w u y → ∃ t, Val K H w t z ∧ ∀ Q : VK, Q t H → r v u H Q) : R2V K r x y z μ := fun w H v u m h1 h2 Q q => by
  obtain ⟨t, ht, hr⟩ := h w H v u m h1 h2
  exact hr Q (q t H m .refl ht)
theorem r2_I0 {g : Int → Int → V} {z : PyData} (hz : ∀ H, Dq H (g i j) z) : R2V K (rI0 g) (Ii i) (Ii j) (.dat z) μ := r2v_pure fun w H v u m h1 h2 => by
  cases h1
  cases h2
  exact ⟨g i j, hz _, fun Q q => ⟨i, j, rfl, rfl, q⟩⟩
theorem r2_I {C : Int → Int → Prop} {g : Int → Int → V} {z : PyData} (hc : C i j) (hz : ∀ H, Dq H (g i j) z) : R2V K (rI C g) (Ii i) (Ii j) (.dat z) μ := r2v_pure fun w H v u m h1 h2 => by
  cases h1
  cases h2
  exact ⟨g i j, hz _, fun Q q => ⟨i, j, rfl, rfl, hc, q⟩⟩
noncomputable def likeD : PyData → PyData → Bool
  | .bool _, .bool _ => true
  | .int _, .int _ => true
  | .str _, .str _ => true
  | _, _ => false
noncomputable def eqS : PyData → PyData → Bool
  | .bool a, .bool b => a == b
  | .int a, .int b => a == b
  | .str a, .str b => a == b
  | _, _ => false
theorem likeD_three {d e : PyData} (h : likeD d e = true) : (∃ a b, d = .bool a ∧ e = .bool b) ∨ (∃ a b, d = .int a ∧ e = .int b) ∨ ∃ a b, d = .str a ∧ e = .str b := by
  cases d with
  | bool a => cases e with
    | bool b => exact .inl ⟨a, b, rfl, rfl⟩
    | _ => cases h
  | int a => cases e with
    | int b => exact .inr (.inl ⟨a, b, rfl, rfl⟩)
    | _ => cases h
  | str a => cases e with
    | str b => exact .inr (.inr ⟨a, b, rfl, rfl⟩)
    | _ => cases h
  | _ => cases h
theorem dq_blI {H : Hp} {v : V} {a : Bool} (h : Dq H v (.bool a)) : v = .bl a := by
  cases h
  rfl
theorem dq_intI {H : Hp} {v : V} {a : Int} (h : Dq H v (.int a)) : v = .int a := by
  cases h
  rfl
theorem dq_strI {H : Hp} {v : V} {a : Str} (h : Dq H v (.str a)) : v = .str a := by
  cases h
  rfl
theorem r2_eq (h : likeD d e = true) : R2V K rEq (.dat d) (.dat e) (Bb (eqS d e)) μ := r2v_pure fun w H v u m h1 h2 => by
  rcases likeD_three h with ⟨a, b, rfl, rfl⟩ | ⟨a, b, rfl, rfl⟩ | ⟨a, b, rfl, rfl⟩
  · obtain rfl := dq_blI h1
    obtain rfl := dq_blI h2
    exact ⟨_, Dq.bl _, fun Q q => ⟨rfl, by rw [dec_bl]; exact q⟩⟩
  · obtain rfl := dq_intI h1
    obtain rfl := dq_intI h2
    exact ⟨_, Dq.bl _, fun Q q => ⟨rfl, by rw [dec_int]; exact q⟩⟩
  · obtain rfl := dq_strI h1
    obtain rfl := dq_strI h2
    exact ⟨_, Dq.bl _, fun Q q => ⟨rfl, by rw [dec_str]; exact q⟩⟩
theorem r2_ne (h : likeD d e = true) : R2V K rNe (.dat d) (.dat e) (Bb (!eqS d e)) μ := r2v_pure fun w H v u m h1 h2 => by
  rcases likeD_three h with ⟨a, b, rfl, rfl⟩ | ⟨a, b, rfl, rfl⟩ | ⟨a, b, rfl, rfl⟩
  · obtain rfl := dq_blI h1
    obtain rfl := dq_blI h2
    exact ⟨_, Dq.bl _, fun Q q => ⟨rfl, by rw [dec_bl]; exact q⟩⟩
  · obtain rfl := dq_intI h1
    obtain rfl := dq_intI h2
    exact ⟨_, Dq.bl _, fun Q q => ⟨rfl, by rw [dec_int]; exact q⟩⟩
  · obtain rfl := dq_strI h1
    obtain rfl := dq_strI h2
    exact ⟨_, Dq.bl _, fun Q q => ⟨rfl, by rw [dec_str]; exact q⟩⟩
theorem r2_eqD (h1 : SeqAt.shaped d = true) (h2 : SeqAt.shaped e = true) : R2V K (rEqD K) (.dat d) (.dat e) (Bb (PyData.eqv d e)) μ := r2v_pure fun w H v u m a b =>
  ⟨_, Dq.bl _, fun Q q => ⟨d, e, Dq.dp dl_same _ _ a (SeqAt.canLay_of_shaped h1), Dq.dp dl_same _ _ b (SeqAt.canLay_of_shaped h2), h1, h2, q⟩⟩
theorem r2_neD (h1 : SeqAt.shaped d = true) (h2 : SeqAt.shaped e = true) : R2V K (rNeD K) (.dat d) (.dat e) (Bb (!PyData.eqv d e)) μ := r2v_pure fun w H v u m a b =>
  ⟨_, Dq.bl _, fun Q q => ⟨d, e, Dq.dp dl_same _ _ a (SeqAt.canLay_of_shaped h1), Dq.dp dl_same _ _ b (SeqAt.canLay_of_shaped h2), h1, h2, q⟩⟩
noncomputable def isNone : PyData → Bool
  | .none => true
  | _ => false
theorem dq_isNone {H : Hp} {v : V} (h : Dq H v d) : decide (v = .non) = isNone d := by
  cases h <;> simp [isNone]
theorem r2_isN : R2V K (fun x y H Q => y = .non ∧ Q (.bl (decide (x = .non))) H) (.dat d) Nn (Bb (isNone d)) μ := r2v_pure fun w H v u m a b => by
  cases b
  exact ⟨_, Dq.bl _, fun Q q => ⟨rfl, by rw [dq_isNone a]; exact q⟩⟩
theorem r2_notN : R2V K (fun x y H Q => y = .non ∧ Q (.bl (!decide (x = .non))) H) (.dat d) Nn (Bb (!isNone d)) μ := r2v_pure fun w H v u m a b => by
  cases b
  exact ⟨_, Dq.bl _, fun Q q => ⟨rfl, by rw [dq_isNone a]; exact q⟩⟩
theorem r2_addS (h : s.length + t.length ≤ sizeLine) : R2V K (fun x y H Q => ∃ i j, x = V.str i ∧ y = V.str j ∧ i.length + j.length ≤ sizeLine ∧ Q (.str (i ++ j)) H) (Ss s) (Ss t) (Ss (s ++ t)) μ := r2v_pure fun w H v u m a b => by
  cases a
  cases b
  exact ⟨_, Dq.str _, fun Q q => ⟨s, t, rfl, rfl, h, q⟩⟩
theorem new_lst {H : Hp} {w : Wd} {vs : List V} {Q : VK} (m : Mem K H w μ) (h : DqAll (dl H w.all) vs ds) (q : ∀ v H', Mem K H' w μ → Fr w.α H H' → Val K H' w v (Ls ds) → Q v H') : ∀ p, H p = none → Q (.ref p) (upd H p (.lst vs)) := fun p hp =>
  q _ _ (m.new hp) (Fr.of_same (Same.new hp)) (val_lst m hp h)
theorem new_tup {H : Hp} {w : Wd} {vs : List V} {Q : VK} (m : Mem K H w μ) (h : DqAll (dl H w.all) vs ds) (q : ∀ v H', Mem K H' w μ → Fr w.α H H' → Val K H' w v (Tp ds) → Q v H') : ∀ p, H p = none → Q (.ref p) (upd H p (.tup vs)) := fun p hp =>
  q _ _ (m.new hp) (Fr.of_same (Same.new hp)) (val_tup m hp h)
theorem r2_cat (h : ds.length + es.length ≤ sizeLine) : R2V K rCat (Ls ds) (Ls es) (Ls (ds ++ es)) μ := fun w H v u m a b Q q => by
  cases a with
  | lst ha hd =>
    cases b with
    | lst hb he =>
      exact ⟨_, _, _, _, rfl, rfl, (dl_some ha).2, (dl_some hb).2, by rw [dqAll_len hd, dqAll_len he]; exact h, new_lst m (dqAll_append hd he) q⟩
theorem r2_catT (h : ds.length + es.length ≤ sizeLine) : R2V K (rCatA K) (Tp ds) (Tp es) (Tp (ds ++ es)) μ := fun w H v u m a b Q q => by
  have a' : Val K H w v (Tp ds) := a
  have b' : Val K H w u (Tp es) := b
  cases a with
  | tup ha hd =>
    cases b with
    | tup hb he =>
      refine ⟨_, _, _, _, rfl, rfl, SqT.of (dl_some ha).2, SqT.of (dl_some hb).2, by rw [dqAll_len hd, dqAll_len he]; exact h, fun z => ?_, fun _ z => ?_, fun _ _ => new_tup m (dqAll_append hd he) q⟩
      · subst z
        cases hd
        exact q _ _ m .refl b'
      · subst z
        cases he
        rw [List.append_nil] at q
        exact q _ _ m .refl a'
noncomputable def flatD : PyData → Bool
  | .none | .bool _ | .int _ | .str _ => true
  | _ => false
noncomputable def eqF : PyData → PyData → Bool
  | .none, .none => true
  | .bool a, .bool b => a == b
  | .bool a, .int b => (if a then 1 else 0) == b
  | .int a, .bool b => a == (if b then 1 else 0)
  | .int a, .int b => a == b
  | .str a, .str b => a == b
  | _, _ => false
noncomputable def inD (x : PyData) (xs : List PyData) : Bool := xs.any fun y => eqF y x
theorem dq_flat {H : Hp} {v : V} (h : Dq H v d) : flatV v = flatD d := by cases h <;> rfl
theorem dq_eqF {H : Hp} {v u : V} (h : Dq H v d) (g : Dq H u e) : eqV v u = eqF d e := by cases h <;> cases g <;> rfl
theorem dq_allFlat {H : Hp} : ∀ {vs : List V} {ds : List PyData}, DqAll H vs ds → vs.all flatV = ds.all flatD
  | [], _, h => by cases h; rfl
  | v :: vs, _, h => by
    cases h with
    | cons h1 h2 => rw [List.all_cons, List.all_cons, dq_flat h1, dq_allFlat h2]
theorem dq_inD {H : Hp} {v : V} (h : Dq H v d) : ∀ {vs : List V} {ds : List PyData}, DqAll H vs ds → inV v vs = inD d ds
  | [], _, g => by cases g; rfl
  | u :: vs, _, g => by
    cases g with
    | cons g1 g2 =>
      have := dq_inD h g2
      unfold inV inD at *
      rw [List.any_cons, List.any_cons, this, dq_eqF g1 h]
theorem r2_inL {neg : Bool} (h1 : flatD d = true) (h2 : ds.all flatD = true) : R2V K (rIn K neg) (.dat d) (Ls ds) (Bb (if neg then !inD d ds else inD d ds)) μ := r2v_pure fun w H v u m a b => by
  cases b with
  | lst hb hd => exact ⟨_, Dq.bl _, fun Q q => ⟨_, _, rfl, .inl (SqL.of (dl_some hb).2), by rw [dq_flat a, h1], by rw [dq_allFlat hd, h2], by rw [dq_inD a hd]; exact q⟩⟩
theorem r2_inT {neg : Bool} (h1 : flatD d = true) (h2 : ds.all flatD = true) : R2V K (rIn K neg) (.dat d) (Tp ds) (Bb (if neg then !inD d ds else inD d ds)) μ := r2v_pure fun w H v u m a b => by
  cases b with
  | tup hb hd => exact ⟨_, Dq.bl _, fun Q q => ⟨_, _, rfl, .inr (SqT.of (dl_some hb).2), by rw [dq_flat a, h1], by rw [dq_allFlat hd, h2], by rw [dq_inD a hd]; exact q⟩⟩
theorem r2_inC {neg : Bool} {n : Nat} (hn : μ[n]? = some ds) (h1 : flatD d = true) (h2 : ds.all flatD = true) : R2V K (rIn K neg) (.dat d) (.ptr n) (Bb (if neg then !inD d ds else inD d ds)) μ := r2v_pure fun w H v u m a b => by
  obtain ⟨p, hp, rfl⟩ := b
  obtain ⟨vs, hb, hd⟩ := m.cell n p ds hp hn
  exact ⟨_, Dq.bl _, fun Q q => ⟨_, _, rfl, .inl (SqL.of hb), by rw [dq_flat a, h1], by rw [dq_allFlat hd, h2], by rw [dq_inD a hd]; exact q⟩⟩
theorem dq_at {H : Hp} {vs : List V} {ds : List PyData} (h : DqAll H vs ds) {i : Int} {d : PyData} (e : atI ds i = some d) : ∃ v, atI vs i = some v ∧ Dq H v d := by
  unfold atI at *
  rw [dqAll_len h]
  cases q : ixN ds.length i with
  | none => rw [q] at e; cases e
  | some j =>
    rw [q] at e
    exact dqAll_get h e
theorem r2_ixT (h : atI ds i = some d) : R2V K (rIxT K) (Tp ds) (Ii i) (.dat d) μ := r2v_pure fun w H v u m a b => by
  cases a with
  | tup ha hd =>
    cases b
    obtain ⟨x, hx, dx⟩ := dq_at hd h
    exact ⟨x, dx, fun Q q => ⟨_, _, i, x, rfl, rfl, SqT.of (dl_some ha).2, hx, q⟩⟩
theorem r2_ixL (h : atI ds i = some d) : R2V K (rIxL K) (Ls ds) (Ii i) (.dat d) μ := r2v_pure fun w H v u m a b => by
  cases a with
  | lst ha hd =>
    cases b
    obtain ⟨x, hx, dx⟩ := dq_at hd h
    exact ⟨x, dx, fun Q q => ⟨_, _, i, x, rfl, rfl, SqL.of (dl_some ha).2, hx, q⟩⟩
theorem r2_ixC {n : Nat} (hn : μ[n]? = some ds) (h : atI ds i = some d) : R2V K (rIxL K) (.ptr n) (Ii i) (.dat d) μ := r2v_pure fun w H v u m a b => by
  obtain ⟨p, hp, rfl⟩ := a
  cases b
  obtain ⟨vs, hb, hd⟩ := m.cell n p ds hp hn
  obtain ⟨x, hx, dx⟩ := dq_at hd h
  exact ⟨x, dx, fun Q q => ⟨_, _, i, x, rfl, rfl, SqL.of hb, hx, q⟩⟩
theorem r2_ixS {c : Nat} (hl : s.length ≤ sizeLine) (h : atI s.cps.toList i = some c) : R2V K rIxS (Ss s) (Ii i) (Ss ⟨#[c]⟩) μ := r2v_pure fun w H v u m a b => by
  cases a
  cases b
  exact ⟨_, Dq.str _, fun Q q => ⟨s, i, c, rfl, rfl, hl, h, q⟩⟩
theorem r2_inSign {c : Nat} : R2V K (fun x y H Q => ∃ (c : Nat) (z : Str), x = V.str ⟨#[c]⟩ ∧ y = V.str z ∧ Q (.bl (decide (c ∈ z.cps.toList))) H) (Ss ⟨#[c]⟩) (Ss t) (Bb (decide (c ∈ t.cps.toList))) μ := r2v_pure fun w H v u m a b => by
  cases a
  cases b
  exact ⟨_, Dq.bl _, fun Q q => ⟨c, t, rfl, rfl, q⟩⟩
end
section
variable {X : Cx} {ρ : REnv} {μ μ1 μ2 μ3 : Sto} {x y z r : Ent} {a b c e : Expr} {es : List Expr} {pos p2 p : Pos} {rs : List Ent} {ds : List PyData} {d : PyData} {i j : Int} {s t n : Str}
theorem EV.ix {q : R2} (hr : IxR X q) (ha : EV X a ρ μ x μ1) (hb : EV X b ρ μ1 y μ2) (h : R2V X.K q x y z μ2) (hs : PlainIx b := by exact fun _ _ => rfl) : EV X (.Subscript a b pos) ρ μ z μ2 := by
  intro w σ H m s Q q
  refine ⟨_, pe_ix hr (p_ex (e := a)) (p_ex (e := b)) hs, ?_⟩
  refine ha w σ H m s _ fun v H1 m1 f1 h1 => ?_
  refine hb w σ H1 m1 (s.fr f1) _ fun u H2 m2 f2 h2 => ?_
  exact h w H2 v u m2 (h1.fr f2) h2 Q fun t H3 m3 f3 h3 => q t H3 m3 ((f1.trans f2).trans f3) h3
theorem EV.tup {k} (ha : AV X es ρ μ (dats ds) μ1) (hl : ds.length ≤ 1000 := by exact Nat.le_of_ble_eq_true rfl) : EV X (.Tuple es k pos) ρ μ (Tp ds) μ1 := by
  intro w σ H m s Q q
  refine ⟨_, pe_tup (p_ax (e := es)), ?_⟩
  refine ha w σ H m s _ fun vs H1 m1 f1 h1 => ?_
  have hd := h1.dats
  exact ⟨by rw [dqAll_len hd]; exact Nat.le_of_lt (small1000 hl), new_tup m1 hd fun v H2 m2 f2 h2 => q v H2 m2 (f1.trans f2) h2⟩
theorem EV.lst (ha : AV X es ρ μ (dats ds) μ1) (hl : ds.length ≤ 1000 := by exact Nat.le_of_ble_eq_true rfl) : EV X (.List es pos) ρ μ (Ls ds) μ1 := by
  intro w σ H m s Q q
  refine ⟨_, pe_lst (p_ax (e := es)), ?_⟩
  refine ha w σ H m s _ fun vs H1 m1 f1 h1 => ?_
  have hd := h1.dats
  exact ⟨by rw [dqAll_len hd]; exact Nat.le_of_lt (small1000 hl), new_lst m1 hd fun v H2 m2 f2 h2 => q v H2 m2 (f1.trans f2) h2⟩
theorem EVF.lst (ha : AV X es ρ μ (dats ds) μ1) (hl : ds.length ≤ 1000 := by exact Nat.le_of_ble_eq_true rfl) : EVF X (.List es pos) ρ μ ds μ1 := by
  intro w σ H m s Q q
  refine ⟨_, pe_lst (p_ax (e := es)), ?_⟩
  refine ha w σ H m s _ fun vs H1 m1 f1 h1 => ?_
  have hd := h1.dats
  refine ⟨by rw [dqAll_len hd]; exact Nat.le_of_lt (small1000 hl), fun p hp => ?_⟩
  have hp0 : Nw H p := Nw.back f1 (Nw.of hp) (m1.fresh hp)
  exact q p _ vs (m1.keep hp) (f1.trans (Fr.of_same (Same.new hp))) hp0 upd_same (dqAll_mono (keep_out (K := X.K) hp (Fr.of_same (Same.new hp)) ⟨_, upd_same⟩) _ _ hd)
noncomputable def SpV (K : PySem.W.Frag) (ps : List Str) (C : List Ent → Sto → Ent → Sto → Prop) : Sp := fun vs H Q _ =>
  ∃ w μ rs r μ', Mem K H w μ ∧ Vas K H w vs rs ∧ rs.length = ps.length ∧ C rs μ r μ' ∧ ∀ v H', Mem K H' w μ' → Fr w.α H H' → Val K H' w v r → Q v H'
structure Cal (P : Program) (w : World) (K : PySem.W.Frag) (mg : Str → Option Value) (base : Heap) (n : Str) (k : Nat) (ps : List Str) (C : List Ent → Sto → Ent → Sto → Prop) : Prop where
  ex : ∃ f fd, FnOk P w K mg base CX0 k f fd ps (SpV K ps C) ∧ mg n = some (.ref f) ∧ PySem.W.keepIn K (.ref f) = true ∧ Binds K fd ps []
theorem EV.call {k : Nat} {ps : List Str} {C : List Ent → Sto → Ent → Sto → Prop} (F : Cal X.prog X.w X.K X.mg X.base n k ps C) (hr : Room k X.A) (ha : AV X (e :: es) ρ μ rs μ1) (hC : C rs μ1 r μ2) (hl : rs.length = ps.length := by rfl)
    (hg : Gl X n := by rfl) (hdb : (n == ("__debug__" : Str)) = false := by decide) (he : starEach (e :: es) X.env = (false, eval e X.env) :: starEach es X.env := by rfl) (hpl : (backTo pos (starEach es X.env)).any (·.1) = false := by rfl) :
    EV X (.Call (.Name n p) (e :: es) [] pos) ρ μ r μ2 := by
  intro w σ H m s Q q
  obtain ⟨f, fd, G, hm, hk, hb⟩ := F.ex
  refine ⟨_, pe_call (E := E0) G hr hg hm hk hb .nil pass0 (p_ax (e := e :: es)) hdb he hpl, ?_⟩
  refine ha w σ H m s _ fun vs H1 m1 f1 h1 => ?_
  refine ⟨w, μ1, rs, r, μ2, m1, by rw [List.append_nil]; exact h1, hl, hC, fun v H' m2 f2 h2 => q v H' m2 (f1.trans f2) h2⟩
noncomputable def CallV (K : PySem.W.Frag) (r : List V → Hp → VK → Prop) (rs : List Ent) (z : Ent) (μ : Sto) : Prop := ∀ w H vs, Mem K H w μ → Vas K H w vs rs → ∀ Q : VK, (∀ t H', Mem K H' w μ → Fr w.α H H' → Val K H' w t z → Q t H') → r vs H Q
theorem EV.callB {id : String} {q : List V → Hp → VK → Prop} (hc : CallR X (.builtin id) q) (hm : X.mg n = none) (hv : bootBuiltins n = some (.builtin id)) (ha : AV X (e :: es) ρ μ rs μ1) (h : CallV X.K q rs z μ1)
    (hg : Gl X n := by rfl) (hn : n ≠ "__name__" := by decide) (hdb : (n == ("__debug__" : Str)) = false := by decide) (he : starEach (e :: es) X.env = (false, eval e X.env) :: starEach es X.env := by rfl) (hpl : (backTo pos (starEach es X.env)).any (·.1) = false := by rfl) :
    EV X (.Call (.Name n p) (e :: es) [] pos) ρ μ z μ1 := by
  intro w σ H m s Q q
  refine ⟨_, pe_callB hc hg hm hv (p_ax (e := e :: es)) hn hdb he hpl, ?_⟩
  refine ha w σ H m s _ fun vs H1 m1 f1 h1 => ?_
  exact h w H1 vs m1 h1 Q fun t H' m2 f2 h2 => q t H' m2 (f1.trans f2) h2
theorem EV.callTy {id : String} {q : List V → Hp → VK → Prop} (hc : CallR X (.type id) q) (hm : X.mg n = none) (hv : bootBuiltins n = some (.type id)) (ha : AV X (e :: es) ρ μ rs μ1) (h : CallV X.K q rs z μ1)
    (hg : Gl X n := by rfl) (hn : n ≠ "__name__" := by decide) (hdb : (n == ("__debug__" : Str)) = false := by decide) (he : starEach (e :: es) X.env = (false, eval e X.env) :: starEach es X.env := by rfl) (hpl : (backTo pos (starEach es X.env)).any (·.1) = false := by rfl) :
    EV X (.Call (.Name n p) (e :: es) [] pos) ρ μ z μ1 := by
  intro w σ H m s Q q
  refine ⟨_, pe_callTy hc hg hm hv (p_ax (e := e :: es)) hn hdb he hpl, ?_⟩
  refine ha w σ H m s _ fun vs H1 m1 f1 h1 => ?_
  exact h w H1 vs m1 h1 Q fun t H' m2 f2 h2 => q t H' m2 (f1.trans f2) h2
end
section
variable {K : PySem.W.Frag} {μ : Sto} {i j : Int} {s t : Str} {ds es : List PyData} {d e : PyData} {b k : Bool} {x z : Ent}
theorem call1 {r : List V → Hp → VK → Prop} (h : ∀ w H v, Mem K H w μ → Val K H w v x → ∀ Q : VK, (∀ t H', Mem K H' w μ → Fr w.α H H' → Val K H' w t z → Q t H') → r [v] H Q) : CallV K r [x] z μ := fun w H vs m hv Q q => by
  obtain ⟨v, us, rfl, h1, h2⟩ := hv.inv
  rw [h2.inv0]
  exact h w H v m h1 Q q
theorem call2 {r : List V → Hp → VK → Prop} {y : Ent} (h : ∀ w H v u, Mem K H w μ → Val K H w v x → Val K H w u y → ∀ Q : VK, (∀ t H', Mem K H' w μ → Fr w.α H H' → Val K H' w t z → Q t H') → r [v, u] H Q) : CallV K r [x, y] z μ := fun w H vs m hv Q q => by
  obtain ⟨v, us, rfl, h1, h2⟩ := hv.inv
  obtain ⟨u, us, rfl, h3, h4⟩ := h2.inv
  rw [h4.inv0]
  exact h w H v u m h1 h3 Q q
theorem cv_lenS (h : s.length ≤ sizeLine) : CallV K (fun xs H Q => ∃ z, xs = [V.str z] ∧ z.length ≤ sizeLine ∧ Q (.int z.length) H) [Ss s] (Ii s.length) μ := call1 fun w H v m a Q q => by
  cases a
  exact ⟨s, rfl, h, q _ _ m .refl (Dq.int _)⟩
theorem cv_lenL : CallV K (fun xs H Q => ∃ p ys, xs = [V.ref p] ∧ (SqL K H p ys ∨ SqT K H p ys) ∧ Q (.int ys.length) H) [Ls ds] (Ii ds.length) μ := call1 fun w H v m a Q q => by
  cases a with
  | lst ha hd => exact ⟨_, _, rfl, .inl (SqL.of (dl_some ha).2), by rw [dqAll_len hd]; exact q _ _ m .refl (Dq.int _)⟩
theorem cv_lenT : CallV K (fun xs H Q => ∃ p ys, xs = [V.ref p] ∧ (SqL K H p ys ∨ SqT K H p ys) ∧ Q (.int ys.length) H) [Tp ds] (Ii ds.length) μ := call1 fun w H v m a Q q => by
  cases a with
  | tup ha hd => exact ⟨_, _, rfl, .inr (SqT.of (dl_some ha).2), by rw [dqAll_len hd]; exact q _ _ m .refl (Dq.int _)⟩
theorem cv_lenC {n : Nat} (hn : μ[n]? = some ds) : CallV K (fun xs H Q => ∃ p ys, xs = [V.ref p] ∧ (SqL K H p ys ∨ SqT K H p ys) ∧ Q (.int ys.length) H) [.ptr n] (Ii ds.length) μ := call1 fun w H v m a Q q => by
  obtain ⟨p, hp, rfl⟩ := a
  obtain ⟨vs, hb, hd⟩ := m.cell n p ds hp hn
  exact ⟨_, _, rfl, .inl (SqL.of hb), by rw [dqAll_len hd]; exact q _ _ m .refl (Dq.int _)⟩
theorem cv_lenScr {ns : List Int} : CallV K (fun xs H Q => ∃ p ys, xs = [V.ref p] ∧ (SqL K H p ys ∨ SqT K H p ys) ∧ Q (.int ys.length) H) [.scr ns] (Ii ns.length) μ := call1 fun w H v m a Q q => by
  obtain ⟨p, rfl, hs⟩ := a
  exact ⟨_, _, rfl, .inl (Same.seq dl_same hs), by rw [List.length_map]; exact q _ _ m .refl (Dq.int _)⟩
theorem cv_str (h : i.natAbs.log2 < 1920) : CallV K (fun xs H Q => ∃ i, xs = [V.int i] ∧ i.natAbs.log2 < 1920 ∧ Q (.str (toString i)) H) [Ii i] (Ss (toString i : String)) μ := call1 fun w H v m a Q q => by
  cases a
  exact ⟨i, rfl, h, q _ _ m .refl (Dq.str _)⟩
theorem cv_int1 : CallV K (fun xs H Q => (∃ i, xs = [V.int i] ∧ Q (.int i) H) ∨ ∃ k, xs = [.bl k] ∧ Q (.int (if k then 1 else 0)) H) [Ii i] (Ii i) μ := call1 fun w H v m a Q q => by
  cases a
  exact .inl ⟨i, rfl, q _ _ m .refl (Dq.int _)⟩
theorem cv_intS (h : PySem.intText? s = some i) (hl : s.length ≤ 640) : CallV K (fun xs H Q => ∃ a n, xs = [V.str a] ∧ PySem.intText? a = some n ∧ a.length ≤ 640 ∧ Q (.int n) H) [Ss s] (Ii i) μ := call1 fun w H v m a Q q => by
  cases a
  exact ⟨s, i, rfl, h, hl, q _ _ m .refl (Dq.int _)⟩
theorem cv_abs : CallV K (fun xs H Q => ∃ i, xs = [V.int i] ∧ Q (.int (if i < 0 then -i else i)) H) [Ii i] (Ii (if i < 0 then -i else i)) μ := call1 fun w H v m a Q q => by
  cases a
  exact ⟨i, rfl, q _ _ m .refl (Dq.int _)⟩
theorem cv_max : CallV K (fun xs H Q => ∃ i j, xs = [V.int i, .int j] ∧ Q (.int (if j > i then j else i)) H) [Ii i, Ii j] (Ii (if j > i then j else i)) μ := call2 fun w H v u m a b Q q => by
  cases a
  cases b
  exact ⟨i, j, rfl, q _ _ m .refl (Dq.int _)⟩
theorem cv_min : CallV K (fun xs H Q => ∃ i j, xs = [V.int i, .int j] ∧ Q (.int (if j < i then j else i)) H) [Ii i, Ii j] (Ii (if j < i then j else i)) μ := call2 fun w H v u m a b Q q => by
  cases a
  cases b
  exact ⟨i, j, rfl, q _ _ m .refl (Dq.int _)⟩
theorem cv_divmod (h : CDiv i j) : CallV K (fun xs H Q => ∃ i j, xs = [V.int i, .int j] ∧ CDiv i j ∧ ∀ p, H p = none → Q (.ref p) (upd H p (.tup [.int (i / j), .int (i % j)]))) [Ii i, Ii j] (Tp [.int (i / j), .int (i % j)]) μ := call2 fun w H v u m a b Q q => by
  cases a
  cases b
  exact ⟨i, j, rfl, h, new_tup m (.cons (.int _) (.cons (.int _) .nil)) q⟩
theorem dq_bools : ∀ {bs : List Bool} {H : Hp} {vs : List V}, DqAll H vs (bs.map PyData.bool) → vs = bs.map V.bl
  | [], H, _, h => by cases h; rfl
  | y :: ys, H, _, h => by
    cases h with
    | cons h1 h2 => cases h1; rw [dq_bools h2]; rfl
theorem cv_all {bs : List Bool} : CallV K (rAll K) [Ls (bs.map PyData.bool)] (Bb (bs.all id)) μ := call1 fun w H v m a Q q => by
  cases a with
  | lst ha hd =>
    rw [dq_bools hd] at ha
    exact ⟨_, bs, rfl, SqL.of (dl_some ha).2, q _ _ m .refl (Dq.bl _)⟩
theorem cv_any {bs : List Bool} : CallV K (rAny K) [Ls (bs.map PyData.bool)] (Bb (bs.any id)) μ := call1 fun w H v m a Q q => by
  cases a with
  | lst ha hd =>
    rw [dq_bools hd] at ha
    exact ⟨_, bs, rfl, SqL.of (dl_some ha).2, q _ _ m .refl (Dq.bl _)⟩
theorem cv_tupL : CallV K (fun xs H Q => ∃ p ys, xs = [V.ref p] ∧ ((SqL K H p ys ∧ ∀ l, H l = none → Q (.ref l) (upd H l (.tup ys))) ∨ (SqT K H p ys ∧ Q (.ref p) H))) [Ls ds] (Tp ds) μ := call1 fun w H v m a Q q => by
  cases a with
  | lst ha hd => exact ⟨_, _, rfl, .inl ⟨SqL.of (dl_some ha).2, new_tup m hd q⟩⟩
theorem cv_tupT : CallV K (fun xs H Q => ∃ p ys, xs = [V.ref p] ∧ ((SqL K H p ys ∧ ∀ l, H l = none → Q (.ref l) (upd H l (.tup ys))) ∨ (SqT K H p ys ∧ Q (.ref p) H))) [Tp ds] (Tp ds) μ := call1 fun w H v m a Q q => by
  have a' : Val K H w v (Tp ds) := a
  cases a with
  | tup ha hd => exact ⟨_, _, rfl, .inr ⟨SqT.of (dl_some ha).2, q _ _ m .refl a'⟩⟩
theorem cv_lstT : CallV K (fun xs H Q => ∃ p ys, xs = [V.ref p] ∧ (SqL K H p ys ∨ SqT K H p ys) ∧ ∀ l, H l = none → Q (.ref l) (upd H l (.lst ys))) [Tp ds] (Ls ds) μ := call1 fun w H v m a Q q => by
  cases a with
  | tup ha hd => exact ⟨_, _, rfl, .inr (SqT.of (dl_some ha).2), new_lst m hd q⟩
noncomputable def tyD : PyData → String
  | .none => "NoneType"
  | .bool _ => "bool"
  | .int _ => "int"
  | .str _ => "str"
  | .list _ => "list"
  | .tuple _ => "tuple"
  | .dict _ => "dict"
noncomputable def isObj : PyData → Bool
  | .dict ((.none, _) :: _) => true
  | _ => false
mutual
noncomputable def nob : PyData → Bool
  | .list xs => nobAll xs
  | .tuple xs => nobAll xs
  | .dict kvs => !isObj (.dict kvs)
  | _ => true
noncomputable def nobAll : List PyData → Bool
  | [] => true
  | x :: xs => nob x && nobAll xs
end
theorem nobAll_mem : ∀ {xs : List PyData}, nobAll xs = true → ∀ x ∈ xs, nob x = true
  | [], _, x, h => by simp at h
  | y :: ys, h, x, hx => by
    simp only [nobAll, Bool.and_eq_true] at h
    rcases List.mem_cons.mp hx with rfl | hx
    · exact h.1
    · exact nobAll_mem h.2 x hx
theorem nobAll_of : ∀ {xs : List PyData}, (∀ x ∈ xs, nob x = true) → nobAll xs = true
  | [], _ => rfl
  | y :: ys, h => by
    simp only [nobAll, Bool.and_eq_true]
    exact ⟨h y List.mem_cons_self, nobAll_of fun x hx => h x (List.mem_cons_of_mem _ hx)⟩
theorem nob_isObj {d : PyData} (h : nob d = true) : isObj d = false := by
  cases d with
  | dict kvs => simpa [nob] using h
  | _ => rfl
theorem nob_tup {xs : List PyData} (h : nob (.tuple xs) = true) : ∀ x ∈ xs, nob x = true := nobAll_mem (by simpa only [nob] using h)
theorem dq_ty {H H' : Hp} {v : V} (h : Dq H v d) (e : Same H H') (ho : isObj d = false) : TyX K H' v (.type (tyD d)) := by
  cases h with
  | ins hx hn hd => cases ho
  | dic ha hn hd => exact .base (.dK (e _ _ ha))
  | non => exact .base .non
  | bl b => exact .base (.bl b)
  | int i => exact .base (.int i)
  | str x => exact .base (.str x)
  | lst ha hd => exact .base (.lst (e _ _ ha))
  | tup ha hd => exact .base (.tup (e _ _ ha))
end
section
variable {X : Cx} {ρ : REnv} {μ μ1 μ2 μ3 : Sto} {x y z r : Ent} {a b c e : Expr} {es : List Expr} {pos p2 p p3 : Pos} {rs : List Ent} {ds : List PyData} {d : PyData} {i j : Int} {s t n : Str}
theorem EV.isi {T : String} {k : Bool} (ha : EV X a ρ μ (.dat d) μ1) (hob : isObj d = false) (hk : kitB (tyD d) T = some k) (hm : X.mg "isinstance" = none) (hmT : X.mg n = none) (hvT : bootBuiltins n = some (.type T)) (hg : Gl X "isinstance" := by rfl) (hgT : Gl X n := by rfl) (hn : n ≠ "__name__" := by decide)
    (hdb : (n == ("__debug__" : Str)) = false := by decide)
    (he : starEach [a, .Name n p2] X.env = (false, eval a X.env) :: starEach [.Name n p2] X.env := by rfl) (he2 : starEach [.Name n p2] X.env = (false, eval (.Name n p2) X.env) :: starEach [] X.env := by rfl) (hpl : (backTo pos (starEach [.Name n p2] X.env)).any (·.1) = false := by rfl) :
    EV X (.Call (.Name "isinstance" p) [a, .Name n p2] [] pos) ρ μ (Bb k) μ1 := by
  intro w σ H m s Q q
  refine ⟨_, pe_callB call_isi hg hm (by decide +kernel) (pa_cons (p_ex (e := a)) (pa_cons (pe_bltn (v := .ty T) hgT hmT hvT rfl hn hdb) pa_nil he2) he) (by decide) (by decide) he hpl, ?_⟩
  refine ha w σ H m s _ fun v H1 m1 f1 h1 => ?_
  exact ⟨v, .ty T, _, .type T, k, rfl, .ty T, dq_ty h1 dl_same hob, kit_ty hk, q _ _ m1 f1 (Dq.bl k)⟩
end
end J
namespace J
open PySem PySem.Spec
open PyProof.Rows L2
structure Wk (J : It) (G : Hp) (ds : List PyData) : Prop where
  go : ∀ H2, Same G H2 → ∀ (i : Nat) (d : PyData), ds[i]? = some d → J.go i H2 ∧ ∀ x H3, J.yld i H2 x H3 → Same H2 H3 ∧ ∀ T : List Addr, Same G (dl H2 T) → (∀ b ∈ T, ∃ o, H2 b = some o) → Dq (dl H3 T) x d
  stop : ∀ H2, Same G H2 → J.stop ds.length H2
noncomputable def IV (X : Cx) (tg e : Expr) (ρ : REnv) (μ : Sto) (ds : List PyData) (μ' : Sto) : Prop :=
  ∀ w σ H, Mem X.K H w μ → Sl X.K H w σ ρ → ∀ R : It → Hp → Prop, (∀ J H', Mem X.K H' w μ' → Fr w.α H H' → Wk J (dl H' w.all) ds → R J H') → IX X tg e σ H R
section
variable {X : Cx} {ρ : REnv} {μ μ1 μ2 μ3 : Sto} {tg a b e : Expr} {ds : List PyData} {i j : Int} {s : Str} {pos p : Pos}
theorem wk_lst {K : PySem.W.Frag} {G : Hp} {c : Addr} {vs : List V} (h : G c = some (.lst vs)) (hd : DqAll G vs ds) : Wk (Itl K c) G ds := by
  refine ⟨fun H2 s i d e => ?_, fun H2 s => ⟨vs, SqL.of (s _ _ h), Nat.le_of_eq (dqAll_len hd)⟩⟩
  obtain ⟨v, hv, dv⟩ := dqAll_get hd e
  refine ⟨⟨vs, v, SqL.of (s _ _ h), hv⟩, fun x H3 y => ?_⟩
  obtain ⟨rfl, y⟩ := y
  have := y vs (SqL.of (s _ _ h))
  rw [hv] at this
  cases this
  exact ⟨Same.refl _, fun T st _ => dq_mono st _ _ dv⟩
theorem wk_tup {K : PySem.W.Frag} {G : Hp} {c : Addr} {vs : List V} (h : G c = some (.tup vs)) (hd : DqAll G vs ds) : Wk (Itt K c) G ds := by
  refine ⟨fun H2 s i d e => ?_, fun H2 s => ⟨vs, SqT.of (s _ _ h), Nat.le_of_eq (dqAll_len hd)⟩⟩
  obtain ⟨v, hv, dv⟩ := dqAll_get hd e
  refine ⟨⟨vs, v, SqT.of (s _ _ h), hv⟩, fun x H3 y => ?_⟩
  obtain ⟨rfl, y⟩ := y
  have := y vs (SqT.of (s _ _ h))
  rw [hv] at this
  cases this
  exact ⟨Same.refl _, fun T st _ => dq_mono st _ _ dv⟩
theorem IV.lst (h : EV X e ρ μ (Ls ds) μ1) : IV X tg e ρ μ ds μ1 := by
  intro w σ H m s R q
  refine ⟨_, pi_list (p_ex (e := e)), ?_⟩
  refine h w σ H m s _ fun v H1 m1 f1 h1 => ?_
  cases h1 with
  | lst ha hd => exact ⟨_, rfl, ⟨_, SqL.of (dl_some ha).2⟩, q _ H1 m1 f1 (wk_lst ha hd)⟩
theorem IV.tup (h : EV X e ρ μ (Tp ds) μ1) : IV X tg e ρ μ ds μ1 := by
  intro w σ H m s R q
  refine ⟨_, pi_tup (p_ex (e := e)), ?_⟩
  refine h w σ H m s _ fun v H1 m1 f1 h1 => ?_
  cases h1 with
  | tup ha hd => exact ⟨_, rfl, ⟨_, SqT.of (dl_some ha).2⟩, q _ H1 m1 f1 (wk_tup ha hd)⟩
noncomputable def strD (s : Str) : List PyData := s.cps.toList.map fun c => .str ⟨#[c]⟩
theorem IV.str (h : EV X e ρ μ (Ss s) μ1) : IV X tg e ρ μ (strD s) μ1 := by
  intro w σ H m s' R q
  refine ⟨_, pi_str (p_ex (e := e)), ?_⟩
  refine h w σ H m s' _ fun v H1 m1 f1 h1 => ?_
  cases h1
  refine ⟨s, rfl, q _ H1 m1 f1 ⟨fun H2 st i d e => ?_, fun H2 st => by show s.cps.size ≤ (strD s).length; simp [strD]⟩⟩
  have hi : i < s.cps.size := by
    have := (List.getElem?_eq_some_iff.mp e).1
    simpa [strD] using this
  refine ⟨hi, fun x H3 y => ?_⟩
  obtain ⟨rfl, c, hc, rfl⟩ := y
  refine ⟨Same.refl _, fun T st2 _ => ?_⟩
  have : d = .str ⟨#[c]⟩ := by
    have hc' : s.cps.toList[i]? = some c := by simpa using hc
    unfold strD at e
    rw [List.getElem?_map, hc'] at e
    simpa using e.symm
  rw [this]
  exact .str _
noncomputable def rngD (lo : Int) (n : Nat) : List PyData := (List.range n).map fun (i : Nat) => PyData.int (lo + (i : Int))
theorem rngD_len {lo : Int} {n : Nat} : (rngD lo n).length = n := by simp [rngD]
theorem wk_rng {lo : Int} {n : Nat} {G : Hp} : Wk (Itr lo n) G (rngD lo n) := by
  refine ⟨fun H2 st i d e => ?_, fun H2 st => by show n ≤ (rngD lo n).length; rw [rngD_len]; exact Nat.le_refl n⟩
  have hi : i < n := by
    have := (List.getElem?_eq_some_iff.mp e).1
    rwa [rngD_len] at this
  refine ⟨hi, fun x H3 y => ?_⟩
  obtain ⟨rfl, rfl⟩ := y
  refine ⟨Same.refl _, fun T st2 _ => ?_⟩
  have : d = .int (lo + (i : Int)) := by
    unfold rngD at e
    rw [List.getElem?_map] at e
    simp [hi] at e
    exact e.symm
  rw [this]
  exact .int _
theorem IV.rng1 (h : EV X a ρ μ (Ii j) μ1) (h1 : -(2 ^ 62) ≤ j) (h2 : j < 2 ^ 62) (hm : X.mg "range" = none) (hg : Gl X "range" := by rfl) (hs : starEach [a] X.env = [(false, eval a X.env)] := by rfl) : IV X tg (.Call (.Name "range" p) [a] [] pos) ρ μ (rngD 0 j.toNat) μ1 := by
  intro w σ H m s R q
  refine ⟨_, pi_range1 hg hm (pa_cons (p_ex (e := a)) pa_nil hs) hs, ?_⟩
  refine h w σ H m s _ fun v H1 m1 f1 hv => ?_
  cases hv
  exact ⟨j, rfl, h1, h2, q _ H1 m1 f1 wk_rng⟩
theorem IV.rng2 (ha : EV X a ρ μ (Ii i) μ1) (hb : EV X b ρ μ1 (Ii j) μ2) (h : -(2 ^ 62) ≤ i ∧ i < 2 ^ 62 ∧ -(2 ^ 62) ≤ j ∧ j < 2 ^ 62) (hm : X.mg "range" = none) (hg : Gl X "range" := by rfl)
    (hs : starEach [a, b] X.env = [(false, eval a X.env), (false, eval b X.env)] := by rfl) (hs2 : starEach [b] X.env = [(false, eval b X.env)] := by rfl) : IV X tg (.Call (.Name "range" p) [a, b] [] pos) ρ μ (rngD i (j - i).toNat) μ2 := by
  intro w σ H m s R q
  refine ⟨_, pi_range2 hg hm (pa_cons (p_ex (e := a)) (pa_cons (p_ex (e := b)) pa_nil (by rw [hs2]; rfl)) (by rw [hs, hs2])) hs hs2, ?_⟩
  refine ha w σ H m s _ fun v H1 m1 f1 hv => ?_
  cases hv
  refine hb w σ H1 m1 (s.fr f1) _ fun v H2 m2 f2 hv => ?_
  cases hv
  exact ⟨i, j, rfl, h, q _ H2 m2 (f1.trans f2) wk_rng⟩
noncomputable def enD : Nat → List PyData → List PyData
  | _, [] => []
  | n, d :: ds => .tuple [.int (n : Int), d] :: enD (n + 1) ds
theorem enD_get : ∀ {ds : List PyData} {n i : Nat} {d : PyData}, (enD n ds)[i]? = some d → ∃ c, ds[i]? = some c ∧ d = .tuple [.int ((n + i : Nat) : Int), c]
  | [], n, i, d, h => by simp [enD] at h
  | x :: xs, n, 0, d, h => by simp [enD] at h; exact ⟨x, rfl, by rw [← h]; rfl⟩
  | x :: xs, n, i + 1, d, h => by
    obtain ⟨c, h1, h2⟩ := enD_get (ds := xs) (n := n + 1) (i := i) (by simpa [enD] using h)
    exact ⟨c, by simpa using h1, by rw [h2]; congr 4; omega⟩
theorem enD_len : ∀ {ds : List PyData} {n : Nat}, (enD n ds).length = ds.length
  | [], _ => rfl
  | x :: xs, n => by simp [enD, enD_len (ds := xs)]
theorem IV.enum {elts : List Expr} {kk : Nat} {tpos : Pos} (h : EV X e ρ μ (Ls ds) μ1) (hm : X.mg "enumerate" = none) (hg : Gl X "enumerate" := by rfl) (hs : starEach [e] X.env = [(false, eval e X.env)] := by rfl) :
    IV X (.Tuple elts kk tpos) (.Call (.Name "enumerate" p) [e] [] pos) ρ μ (enD 0 ds) μ1 := by
  intro w σ H m s R q
  refine ⟨_, pi_enum hg hm (pa_cons (p_ex (e := e)) pa_nil hs) hs, ?_⟩
  refine h w σ H m s _ fun v H1 m1 f1 h1 => ?_
  cases h1 with
  | lst ha hd =>
    rename_i c vs
    refine ⟨_, _, rfl, SqL.of (dl_some ha).2, q _ H1 m1 f1 ⟨fun H2 st i d e => ?_, fun H2 st => ⟨vs, SqL.of (st _ _ ha), by rw [enD_len, dqAll_len hd]; exact Nat.le_refl _⟩⟩⟩
    obtain ⟨y, hy, rfl⟩ := enD_get e
    obtain ⟨u, hu, du⟩ := dqAll_get hd hy
    refine ⟨⟨vs, u, SqL.of (st _ _ ha), hu⟩, fun x H3 yy => ?_⟩
    obtain ⟨T0, x0, rfl, hT, rfl, hx⟩ := yy
    have e0 := hx vs (SqL.of (st _ _ ha))
    rw [hu] at e0
    cases e0
    refine ⟨Same.new hT, fun T st2 tr => ?_⟩
    have nT : T0 ∉ T := fun z => by
      obtain ⟨o, eo⟩ := tr T0 z
      rw [hT] at eo; cases eo
    have e1 : ((0 + i : Nat) : Int) = ((i : Nat) : Int) := by omega
    rw [e1]
    exact Dq.tup (dl_of nT upd_same) (.cons (.int _) (.cons (dq_mono (st2.trans (dl_new hT)) _ _ du) .nil))
end
noncomputable def wipeE (ρ : REnv) : List Nat → REnv
  | [] => ρ
  | v :: vs => (wipeE ρ vs).set v none
theorem sl_wipe {K : PySem.W.Frag} {H : Hp} {w : Wd} {σ : L2.St} {ρ : REnv} (h : Sl K H w σ ρ) : ∀ vs : List Nat, Sl K H w (wipe σ vs) (wipeE ρ vs)
  | [] => h
  | v :: vs => by
    have g := sl_wipe h vs
    refine ⟨by simp [wipe, wipeE, g.len], fun i r e => ?_⟩
    unfold wipeE at e
    unfold wipe
    by_cases hi : v = i
    · subst hi
      rw [List.getElem?_set] at e
      by_cases hl : v < (wipeE ρ vs).length
      · simp [hl] at e
      · simp [hl] at e
    · rw [List.getElem?_set_ne hi] at e
      rw [List.getElem?_set_ne hi]
      exact g.at_ i r e
theorem wipe_set : ∀ (σ : L2.St) (vs : List Nat) (i : Nat) (x : Option V), i ∈ vs → wipe (σ.set i x) vs = wipe σ vs
  | σ, [], i, x, h => absurd h (by simp)
  | σ, v :: vs, i, x, h => by
    unfold wipe
    by_cases hv : i ∈ vs
    · rw [wipe_set σ vs i x hv]
    · have e : i = v := (List.mem_cons.mp h).resolve_right hv
      subst e
      have g : ∀ (us : List Nat) (σ : L2.St), i ∉ us → wipe (σ.set i x) us = (wipe σ us).set i x := by
        intro us
        induction us with
        | nil => intro σ _; rfl
        | cons u us ih =>
          intro σ hn
          unfold wipe
          rw [ih σ (fun z => hn (List.mem_cons_of_mem _ z)), List.set_comm _ _ (fun z => hn (by rw [z]; exact List.mem_cons_self))]
      rw [g vs σ hv, List.set_set]
noncomputable def GV (X : Cx) (tg : Expr) (d : PyData) (ρ ρ' : REnv) (is : List Nat) : Prop :=
  ∀ w σ H μ v, Mem X.K H w μ → Sl X.K H w σ ρ → Val X.K H w v (.dat d) → ∀ Q : L2.St → Hp → Prop, (∀ σ', Sl X.K H w σ' ρ' → wipe σ' is = wipe σ is → Q σ' H) → GX X tg v σ H Q
noncomputable def GsV (X : Cx) (tg : List Expr) (ds : List PyData) (ρ ρ' : REnv) (is : List Nat) : Prop :=
  ∀ w σ H μ vs, Mem X.K H w μ → Sl X.K H w σ ρ → DqAll (dl H w.all) vs ds → ∀ Q : L2.St → Hp → Prop, (∀ σ', Sl X.K H w σ' ρ' → wipe σ' is = wipe σ is → Q σ' H) → GsX X tg vs σ H Q
section
variable {X : Cx} {ρ ρ1 ρ2 : REnv} {d : PyData} {ds : List PyData} {n : Str} {pos : Pos} {tg : Expr} {tgs : List Expr} {is : List Nat}
theorem GV.name {i : Nat} (hN : X.N.Nodup) (hi : X.N[i]? = some n) (hx : Loc X.env.scope n) (hm : i ∈ is) (hf : X.fn n = true ∨ X.env.scope.names.lookup n = some .local := by first | exact .inl rfl | exact .inr rfl | assumption) : GV X (.Name n pos) d ρ (ρ.set i (some (.dat d))) is := by
  intro w σ H μ v m s h Q q
  exact ⟨_, pg_name hN hi hx hf, q _ (s.set h) (wipe_set σ is i _ hm)⟩
theorem GsV.nil : GsV X [] [] ρ ρ is := by
  intro w σ H μ vs m s h Q q
  cases h
  exact ⟨_, pgs_nil, rfl, q σ s rfl⟩
theorem GsV.cons (h1 : GV X tg d ρ ρ1 is) (h2 : GsV X tgs ds ρ1 ρ2 is) (ha : (assignEach (tg :: tgs) X.env).map (·.2) = assign tg X.env :: (assignEach tgs X.env).map (·.2) := by rfl) : GsV X (tg :: tgs) (d :: ds) ρ ρ2 is := by
  intro w σ H μ vs m s h Q q
  cases h with
  | cons a b =>
    refine ⟨_, pgs_cons (p_gx (e := tg)) (p_gsx (e := tgs)) ha, ?_⟩
    refine ⟨_, _, rfl, h1 w σ H μ _ m s a _ fun σ1 s1 e1 => ?_⟩
    exact h2 w σ1 H μ _ m s1 b Q fun σ2 s2 e2 => q σ2 s2 (e2.trans e1)
theorem GV.tup {k : Nat} (h : GsV X tgs ds ρ ρ1 is) (hc : X.calm = true := by rfl) (hn : (assignEach tgs X.env).length = ds.length := by rfl) (hst : (assignEach tgs X.env).findIdx? (·.1) = none := by rfl) : GV X (.Tuple tgs k pos) (.tuple ds) ρ ρ1 is := by
  intro w σ H μ v m s hv Q q
  cases hv with
  | tup ha hd =>
    refine ⟨_, pg_tup hc (p_gsx (e := tgs)) hn hst, ?_⟩
    exact ⟨_, _, rfl, SqT.of (dl_some ha).2, dqAll_len hd, h w σ H μ _ m s hd Q q⟩
end
end J
namespace J
open PySem PySem.Spec
open PyProof.Rows L2
section
variable {X : Cx} {ρ : REnv} {μ μ1 μ2 μ3 : Sto} {x y z r : Ent} {a b c e tg iter elt : Expr} {es : List Expr} {pos p2 p apos : Pos} {rs : List Ent} {ds out : List PyData} {d : PyData} {i j : Int} {s t n : Str} {k : Bool}
theorem EVF.ev (h : EVF X e ρ μ ds μ1) : EV X e ρ μ (Ls ds) μ1 := by
  intro w σ H m s Q q
  refine h w σ H m s Q fun p H' vs m' f hp e hd => ?_
  refine q _ H' m'.unkeep f ?_
  exact Dq.lst (dl_of (m.freshN hp) e) (dqAll_mono (dl_sub fun b hb => all_wk'.mpr (.inr hb)) _ _ hd)
theorem Sl.same2 {K : PySem.W.Frag} {H H' : Hp} {w : Wd} {D : Addr} {σ : L2.St} (h : Sl K H w σ ρ) (f : Same (dl H w.all) (dl H' (wk' w D).all)) : Sl K H' (wk' w D) σ ρ := ⟨h.len, fun i r e => by
  obtain ⟨v, a, b⟩ := h.at_ i r e
  refine ⟨v, a, ?_⟩
  cases r with
  | dat d => exact dq_mono f d v b
  | ptr k => exact b
  | obj C fs =>
    obtain ⟨x, dx, ws, e, hx, hn, hd⟩ := b
    exact ⟨x, dx, ws, e, f _ _ hx, hn, dqAll_mono f _ _ hd⟩
  | scr ns =>
    obtain ⟨a, e, hs⟩ := b
    exact ⟨a, e, Same.seq f hs⟩
  | raw u => exact b
  | exc a d fs =>
    obtain ⟨e, ws, hx, hn, hd⟩ := b
    exact ⟨e, ws, f _ _ hx, hn, dqAll_mono f _ _ hd⟩⟩
noncomputable abbrev blkX (X : Cx) (scope : Scope) (s : Shared) (H : Hp) (C : Addr) (cl : List (Str × Addr)) (fp : List Addr) : Cx := X.blk s H scope (compEnvC scope cl C X.env) fp
noncomputable def gC (X : Cx) (scope : Scope) (tg : Expr) : TG := fun v σ H Q => ∀ s H0 C cl fp, GX (blkX X scope s H0 C cl fp) tg v σ H Q
noncomputable def ttC (X : Cx) (scope : Scope) (ifs : List Expr) : TT := fun σ H Q => (ifs = [] ∧ Q true H) ∨ ∃ c, ifs = [c] ∧ ∀ s H0 C cl fp, TX (blkX X scope s H0 C cl fp) c σ H Q
noncomputable def teC (X : Cx) (scope : Scope) (elt : Expr) : TE := fun σ H Q => ∀ s H0 C cl fp, EX (blkX X scope s H0 C cl fp) elt σ H Q
theorem pg_C {scope : Scope} (s : Shared) (H : Hp) (C : Addr) (cl : List (Str × Addr)) (fp : List Addr) : PG (X.blk s H scope (compEnvC scope cl C X.env) fp) tg (gC X scope tg) :=
    ⟨fun pins s1 σ H1 v u Q I r h => (p_gx (X := blkX X scope s H C cl fp) (e := tg)).run pins s1 σ H1 v u Q I r (h s H C cl fp)⟩
theorem pts_C {scope : Scope} {ifs : List Expr} (s : Shared) (H : Hp) (C : Addr) (cl : List (Str × Addr)) (fp : List Addr) : PTs (X.blk s H scope (compEnvC scope cl C X.env) fp) ifs (ttC X scope ifs) :=
    ⟨fun pins s1 σ H1 Q I h => by
      rcases h with ⟨rfl, h⟩ | ⟨c, rfl, h⟩
      · exact pts_nil.run pins s1 σ H1 Q I h
      · exact (pts_one (p_tx (X := blkX X scope s H C cl fp) (e := c))).run pins s1 σ H1 Q I (h s H C cl fp)⟩
theorem pe_C {scope : Scope} (s : Shared) (H : Hp) (C : Addr) (cl : List (Str × Addr)) (fp : List Addr) : PE (X.blk s H scope (compEnvC scope cl C X.env) fp) elt (teC X scope elt) :=
    ⟨fun pins s1 σ H1 Q I h => (p_ex (X := blkX X scope s H C cl fp) (e := elt)).run pins s1 σ H1 Q I (h s H C cl fp)⟩
noncomputable def LCV (X : Cx) (elt tg iter : Expr) (ifs : List Expr) (scope : Scope) (own : List (Str × Nat)) (ρ : REnv) (μ : Sto) (out : List PyData) (μ3 : Sto) : Prop :=
  ∀ w σ H, Mem X.K H w μ → Sl X.K H w σ ρ → ∀ Q : VK, (∀ p H' vs, Mem X.K H' (wk' w p) μ3 → Fr w.α H H' → Nw H p → H' p = some (.lst vs) → DqAll (dl H' (wk' w p).all) vs out → Q (.ref p) H') → tLc (IX X tg iter) (gC X scope tg) (ttC X scope ifs) (teC X scope elt) (own.map (·.2)) σ H Q
theorem LCV.mk {scope : Scope} {own : List (Str × Nat)} {ifs : List Expr} (hi : IV X tg iter ρ μ ds μ1) (Iv : Nat → List PyData → Sto → Prop) (h0 : Iv 0 [] μ1)
    (hs : ∀ i d acc μ, ds[i]? = some d → Iv i acc μ → ∃ ρ', (∀ s H C cl fp, GV (blkX X scope s H C cl fp) tg d (wipeE ρ (own.map (·.2))) ρ' (own.map (·.2))) ∧ ∃ (k : Bool) (μ2 : Sto), ((ifs = [] ∧ k = true ∧ μ2 = μ) ∨ ∃ c, ifs = [c] ∧ ∀ s H C cl fp, TV (blkX X scope s H C cl fp) c ρ' μ k μ2) ∧
      if k = true then ∃ y μ', (∀ s H C cl fp, EV (blkX X scope s H C cl fp) elt ρ' μ2 (.dat y) μ') ∧ Iv (i + 1) (acc ++ [y]) μ' else Iv (i + 1) acc μ2)
    (hd : ∀ acc μ, Iv ds.length acc μ → acc = out ∧ μ = μ3) (hl : ds.length ≤ 100000) : LCV X elt tg iter ifs scope own ρ μ out μ3 := by
  intro w σ H m s Q q
  refine hi w σ H m s _ fun J H1 m1 f1 wk => ?_
  intro D hD
  have hD0 : Nw H D := Nw.back f1 (Nw.of hD) (m1.fresh hD)
  -- between two turns
  refine ⟨fun i n H2 => n = ds.length - i ∧ i ≤ ds.length ∧ ∃ acc μa vs, Iv i acc μa ∧ acc.length ≤ i ∧ Mem X.K H2 (wk' w D) μa ∧ Fr w.α H1 (fun b => if b = D then none else H2 b) ∧ H2 D = some (.lst vs) ∧ DqAll (dl H2 (wk' w D).all) vs acc, ⟨ds.length, by simp, Nat.zero_le _, [], μ1, [], h0, by simp, m1.keep hD, fun b o e hb _ => ?_, upd_same, .nil⟩, ?_⟩
  · have : b ≠ D := ne_of_none e hD
    simp [this, upd_ne this, e]
  rintro i n H2 ⟨rfl, hi', acc, μa, vs, iv, hla, m2, f2, e2, hd2⟩
  have fr2 : ∀ b o, H1 b = some o → b ∉ w.α → Nt o → H2 b = some o := fun b o e hb nt => by
    have : (if b = D then none else H2 b) = some o := f2 b o e hb nt
    by_cases z : b = D
    · rw [if_pos z] at this; cases this
    · rwa [if_neg z] at this
  have g12 : Same (dl H1 w.all) (dl H2 (wk' w D).all) := keep_out (K := X.K) hD fr2 ⟨_, e2⟩
  have g12' : Same (dl H1 w.all) H2 := g12.trans dl_same
  by_cases hlt : i < ds.length
  · obtain ⟨d, hdi⟩ : ∃ d, ds[i]? = some d := ⟨ds[i], by simp [hlt]⟩
    obtain ⟨go, yl⟩ := wk.go H2 g12' i d hdi
    refine .inr ⟨go, fun H' => ∃ acc μa vs, Iv (i + 1) acc μa ∧ acc.length ≤ i + 1 ∧ Mem X.K H' (wk' w D) μa ∧ Fr w.α H1 (fun b => if b = D then none else H' b) ∧ H' D = some (.lst vs) ∧ DqAll (dl H' (wk' w D).all) vs acc, fun H' h => ⟨ds.length - (i + 1), by omega, rfl, hlt, h⟩, fun x H3 y3 => ?_⟩
    obtain ⟨s23, dx⟩ := yl x H3 y3
    have dx3 : Dq (dl H3 (wk' w D).all) x d := dx _ g12 fun b hb => (all_wk'.mp hb).elim (fun z => z ▸ ⟨_, e2⟩) fun hb => (List.mem_append.mp hb).elim (fun z => (m2.there z).elim fun vs e => ⟨_, e⟩) fun z => m2.ex1 (List.mem_cons_of_mem _ z)
    have m3 := m2.same s23
    have f23 : Fr (wk' w D).α H2 H3 := Fr.of_same s23
    have sl3 : Sl X.K H3 (wk' w D) (wipe σ (own.map (·.2))) (wipeE ρ (own.map (·.2))) := (sl_wipe ((s.fr f1).same2 g12) _).fr f23
    obtain ⟨ρ', hgv, kt, μt, htv, rest⟩ := hs i d acc μa hdi iv
    intro s' H0 C cl fp
    refine hgv s' H0 C cl fp _ _ H3 μa x m3 sl3 dx3 _ fun σ4 sl4 ew => ⟨ew.trans (by
      have : ∀ (vs : List Nat) (σ : L2.St), wipe (wipe σ vs) vs = wipe σ vs := by
        intro vs
        have aux : ∀ (us : List Nat) (σ : L2.St), (∀ u ∈ us, u ∈ vs) → wipe (wipe σ us) vs = wipe σ vs := by
          intro us
          induction us with
          | nil => intro σ _; rfl
          | cons u us ih =>
            intro σ hu
            show wipe ((wipe σ us).set u none) vs = wipe σ vs
            rw [wipe_set _ _ _ _ (hu u List.mem_cons_self)]
            exact ih σ fun z hz => hu z (List.mem_cons_of_mem _ hz)
        exact fun σ => aux vs σ fun u h => h
      exact this _ σ), ?_⟩
    -- behind the target
    have fin : ∀ (k : Bool) (H5 : Hp), Mem X.K H5 (wk' w D) μt → Fr w.α H3 H5 → k = kt → (if k = true then (∀ s H0 C cl fp, EX (blkX X scope s H0 C cl fp) elt σ4 H5 fun y H4 => ∃ acc, H4 D = some (.lst acc) ∧ acc.length < sizeLine ∧ ∃ acc' μa vs, Iv (i + 1) acc' μa ∧ acc'.length ≤ i + 1 ∧ Mem X.K (upd H4 D (.lst (acc ++ [y]))) (wk' w D) μa ∧ Fr w.α H1 (fun b => if b = D then none else (upd H4 D (.lst (acc ++ [y]))) b) ∧ (upd H4 D (.lst (acc ++ [y]))) D = some (.lst vs) ∧ DqAll (dl (upd H4 D (.lst (acc ++ [y]))) (wk' w D).all) vs acc')
        else ∃ acc μa vs, Iv (i + 1) acc μa ∧ acc.length ≤ i + 1 ∧ Mem X.K H5 (wk' w D) μa ∧ Fr w.α H1 (fun b => if b = D then none else H5 b) ∧ H5 D = some (.lst vs) ∧ DqAll (dl H5 (wk' w D).all) vs acc) := by
      intro k H5 m5 f35 ek
      subst ek
      have hDa : D ∉ w.α := m2.out D List.mem_cons_self
      have e5 : H5 D = some (.lst vs) := f35 D _ (s23 _ _ e2) hDa (fun q z => by cases z)
      have g25 : Same (dl H2 (wk' w D).all) (dl H5 (wk' w D).all) := Fr.all (w := wk' w D) (f23.trans f35)
      cases k with
      | false =>
        refine iteF ?_
        refine ⟨acc, μt, vs, by simpa using rest, Nat.le_succ_of_le hla, m5, fun b o e hb nt => ?_, e5, dqAll_mono g25 _ _ hd2⟩
        have nb : b ≠ D := ne_of_none e hD
        simp only [nb, if_false]
        exact (f23.trans f35) b o (fr2 b o e hb nt) hb nt
      | true =>
        refine iteT ?_
        intro s' H0 C cl fp
        obtain ⟨y, μ', hev, ivn⟩ := (by simpa using rest : ∃ y μ', (∀ s H C cl fp, EV (blkX X scope s H C cl fp) elt ρ' μt (.dat y) μ') ∧ Iv (i + 1) (acc ++ [y]) μ')
        refine hev s' H0 C cl fp (wk' w D) σ4 H5 m5 (sl4.fr f35) _ fun v H6 m6 f56 hv => ?_
        have e6 : H6 D = some (.lst vs) := f56 D _ e5 hDa (fun q z => by cases z)
        have g56 : Same (dl H5 (wk' w D).all) (dl H6 (wk' w D).all) := Fr.all (w := wk' w D) f56
        refine ⟨vs, e6, ?_, acc ++ [y], μ', vs ++ [v], ivn, by simp; exact hla, m6.outs, fun b o e hb nt => ?_, upd_same, dqAll_append (dqAll_mono ((g25.trans g56).trans same_outs) _ _ hd2) (.cons (dq_mono same_outs _ _ hv) .nil)⟩
        · rw [dqAll_len hd2]
          exact Nat.lt_of_le_of_lt (Nat.le_trans hla (Nat.le_of_lt (Nat.lt_of_lt_of_le hlt hl))) (by decide)
        · have nb : b ≠ D := ne_of_none e hD
          simp only [nb, if_false, upd_ne nb]
          exact ((f23.trans f35).trans f56) b o (fr2 b o e hb nt) hb nt
    rcases htv with ⟨hi0, rfl, rfl⟩ | ⟨c, hi1, htv⟩
    · exact .inl ⟨hi0, fin true H3 m3 Fr.refl rfl⟩
    · exact .inr ⟨c, hi1, fun s' H0 C cl fp => htv s' H0 C cl fp (wk' w D) σ4 H3 m3 sl4 _ fun H5 m5 f35 => fin kt H5 m5 f35 rfl⟩
  · have ei : i = ds.length := by omega
    subst ei
    obtain ⟨rfl, rfl⟩ := hd acc μa iv
    refine .inl ⟨wk.stop H2 g12', ?_⟩
    exact q D H2 vs m2 (f1.trans fr2) hD0 e2 hd2
theorem LCV.evf {scope : Scope} {own : List (Str × Nat)} {ifs : List Expr} (h : LCV X elt tg iter ifs scope own ρ μ out μ3) (hc : X.calm = true) (hN : X.N.Nodup) (ok : BlkOk X.N X.env.scope scope own) (hst : ∀ x, foldedSetIterable iter X.env x = pure x := by intro _; rfl) : EVF X (.ListComp elt [⟨tg, iter, ifs, 0⟩] scope pos) ρ μ out μ3 :=
  fun w σ H m s Q q => ⟨_, pe_lc hc hN (p_ix (tg := tg) (e := iter)) ok pg_C pts_C pe_C hst, h w σ H m s Q q⟩
theorem LCV.map {scope : Scope} {own : List (Str × Nat)} (f : PyData → PyData) (hi : IV X tg iter ρ μ ds μ1)
    (hs : ∀ d ∈ ds, ∃ ρ', (∀ s H C cl fp, GV (blkX X scope s H C cl fp) tg d (wipeE ρ (own.map (·.2))) ρ' (own.map (·.2))) ∧ (∀ s H C cl fp, EV (blkX X scope s H C cl fp) elt ρ' μ1 (.dat (f d)) μ1))
    (hl : ds.length ≤ 100000) : LCV X elt tg iter [] scope own ρ μ (ds.map f) μ1 := by
  refine LCV.mk hi (fun i acc μ => acc = (ds.take i).map f ∧ μ = μ1) ⟨by simp, rfl⟩ (fun i d acc μ e h => ?_) (fun acc μ h => ⟨by simpa using h.1, h.2⟩) hl
  obtain ⟨rfl, rfl⟩ := h
  obtain ⟨ρ', h1, h2⟩ := hs d (List.mem_iff_getElem?.mpr ⟨i, e⟩)
  refine ⟨ρ', h1, true, _, .inl ⟨rfl, rfl, rfl⟩, iteT ⟨f d, _, h2, ?_, rfl⟩⟩
  rw [List.take_succ, e]
  simp
end
end J
namespace J
open PySem PySem.Spec
open PyProof.Rows L2
section
variable {X : Cx} {ρ : REnv} {μ μ1 μ2 μ3 : Sto} {x y z r : Ent} {a b c e o tg iter elt : Expr} {es : List Expr} {pos p2 p apos : Pos} {rs : List Ent} {ds out : List PyData} {d : PyData} {i j : Int} {s t n : Str} {k : Bool}
theorem EV.un {op : UnaryOp} {q : V → Hp → VK → Prop} (ho : UnR X (unaryOp op) q) (ha : EV X a ρ μ x μ1) (h : ∀ w H v, Mem X.K H w μ1 → Val X.K H w v x → ∃ t, Val X.K H w t z ∧ ∀ Q : VK, Q t H → q v H Q) : EV X (.UnaryOp op a pos) ρ μ z μ1 := by
  intro w σ H m s Q qq
  refine ⟨_, pe_un ho (p_ex (e := a)), ?_⟩
  refine ha w σ H m s _ fun v H1 m1 f1 h1 => ?_
  obtain ⟨t, ht, hr⟩ := h w H1 v m1 h1
  exact hr _ (qq t H1 m1 f1 ht)
theorem EV.neg (ha : EV X a ρ μ (Ii i) μ1) : EV X (.UnaryOp .USub a pos) ρ μ (Ii (-i)) μ1 := ha.un un_neg fun w H v m h => by
  cases h
  exact ⟨_, Dq.int _, fun Q q => ⟨i, rfl, q⟩⟩
noncomputable def PartV (X : Cx) (e : Option Expr) (ρ : REnv) (μ : Sto) (o : Option Int) (μ' : Sto) : Prop := ∀ w σ H, Mem X.K H w μ → Sl X.K H w σ ρ → ∀ Q : Option Int → Hp → Prop, (∀ H', Mem X.K H' w μ' → Fr w.α H H' → Q o H') → OX X e σ H Q
theorem PartV.none : PartV X none ρ μ none μ := fun w σ H m s Q q => ⟨_, po_none, q H m .refl⟩
theorem PartV.some (h : EV X e ρ μ (Ii i) μ1) : PartV X (some e) ρ μ (some i) μ1 := by
  intro w σ H m s Q q
  refine ⟨_, po_some (p_ex (e := e)), ?_⟩
  refine h w σ H m s _ fun v H1 m1 f1 h1 => ?_
  cases h1
  exact ⟨i, rfl, q H1 m1 f1⟩
noncomputable def cutD (xs : List PyData) (lo hi : Option Int) : List PyData := (xs.drop (HT.sIx xs.length 0 lo)).take (HT.sIx xs.length xs.length hi - HT.sIx xs.length 0 lo)
theorem dq_cut {H : Hp} {vs : List V} (h : DqAll H vs ds) (lo hi : Option Int) : DqAll H (cutV vs lo hi) (cutD ds lo hi) := by
  unfold cutV cutD
  rw [dqAll_len h]
  exact dqAll_take _ (dqAll_drop _ h)
theorem EV.slT {lo hi : Option Expr} {l h : Option Int} (ha : EV X a ρ μ (Tp ds) μ1) (hl : PartV X lo ρ μ1 l μ2) (hh : PartV X hi ρ μ2 h μ3) : EV X (.Subscript a (.Slice lo hi none p2) pos) ρ μ (Tp (cutD ds l h)) μ3 := by
  intro w σ H m s Q q
  refine ⟨_, pe_slice sl_tupA (p_ex (e := a)) (p_ox (e := lo)) (p_ox (e := hi)), ?_⟩
  refine ha w σ H m s _ fun v H1 m1 f1 h1 => ?_
  refine hl w σ H1 m1 (s.fr f1) _ fun H2 m2 f2 => ?_
  refine hh w σ H2 m2 ((s.fr f1).fr f2) _ fun H3 m3 f3 => ?_
  have h3 := (h1.fr f2).fr f3
  have h3' := h3
  cases h3 with
  | tup hs hd =>
    refine ⟨_, _, rfl, SqT.of (dl_some hs).2, fun z => ?_, fun _ => new_tup m3 (dq_cut hd l h) fun v H4 m4 f4 h4 => q v H4 m4 (((f1.trans f2).trans f3).trans f4) h4⟩
    have e : cutD ds l h = ds := by
      unfold cutD
      rw [← dqAll_len hd, z.1, z.2]
      simp [dqAll_len hd]
    rw [e] at q
    exact q _ H3 m3 ((f1.trans f2).trans f3) h3'
theorem EV.slL {lo hi : Option Expr} {l h : Option Int} (ha : EV X a ρ μ (Ls ds) μ1) (hl : PartV X lo ρ μ1 l μ2) (hh : PartV X hi ρ μ2 h μ3) : EV X (.Subscript a (.Slice lo hi none p2) pos) ρ μ (Ls (cutD ds l h)) μ3 := by
  intro w σ H m s Q q
  refine ⟨_, pe_slice sl_list (p_ex (e := a)) (p_ox (e := lo)) (p_ox (e := hi)), ?_⟩
  refine ha w σ H m s _ fun v H1 m1 f1 h1 => ?_
  refine hl w σ H1 m1 (s.fr f1) _ fun H2 m2 f2 => ?_
  refine hh w σ H2 m2 ((s.fr f1).fr f2) _ fun H3 m3 f3 => ?_
  have h3 := (h1.fr f2).fr f3
  cases h3 with
  | lst hs hd => exact ⟨_, _, rfl, SqL.of (dl_some hs).2, new_lst m3 (dq_cut hd l h) fun v H4 m4 f4 h4 => q v H4 m4 (((f1.trans f2).trans f3).trans f4) h4⟩
theorem EV.slScr {lo hi : Option Expr} {l h : Option Int} {ns : List Int} (ha : EV X a ρ μ (.scr ns) μ1) (hl : PartV X lo ρ μ1 l μ2) (hh : PartV X hi ρ μ2 h μ3) : EV X (.Subscript a (.Slice lo hi none p2) pos) ρ μ (Ls (cutD (ns.map .int) l h)) μ3 := by
  intro w σ H m s Q q
  refine ⟨_, pe_slice sl_list (p_ex (e := a)) (p_ox (e := lo)) (p_ox (e := hi)), ?_⟩
  refine ha w σ H m s _ fun v H1 m1 f1 h1 => ?_
  refine hl w σ H1 m1 (s.fr f1) _ fun H2 m2 f2 => ?_
  refine hh w σ H2 m2 ((s.fr f1).fr f2) _ fun H3 m3 f3 => ?_
  obtain ⟨a0, rfl, hs⟩ := (h1.fr f2).fr f3
  have hd : ∀ (ns : List Int), DqAll (dl H3 w.all) (ns.map V.int) (ns.map .int) := by
    intro ns
    induction ns with
    | nil => exact .nil
    | cons n ns ih => exact .cons (.int n) ih
  exact ⟨_, _, rfl, Same.seq dl_same hs, new_lst m3 (dq_cut (hd ns) l h) fun v H4 m4 f4 h4 => q v H4 m4 (((f1.trans f2).trans f3).trans f4) h4⟩
theorem EV.m1 {id : String} {q : V → List V → Hp → VK → Prop} (slot : Slot "str" n id) (ty : typeOf (.builtin id) = pure (.type "method_descriptor")) (rule : MtR X id q) (ho : EV X o ρ μ (Ss s) μ1) (he : EV X e ρ μ1 y μ2)
    (h : ∀ w H u, Mem X.K H w μ2 → Val X.K H w u y → ∀ Q : VK, (∀ t H', Mem X.K H' w μ2 → Fr w.α H H' → Val X.K H' w t z → Q t H') → q (.str s) [u] H Q)
    (hs : starEach [e] X.env = [(false, eval e X.env)] := by rfl) (hbase : attributeBase o n X.env (eval o X.env) = eval o X.env := by rfl) (hline : (apos.endLine == pos.line) = true := by rfl) : EV X (.Call (.Attribute o n apos) [e] [] pos) ρ μ z μ2 := by
  intro w σ H m s' Q qq
  refine ⟨_, pe_m1 slot ty rule (p_ex (e := o)) (p_ex (e := e)) hs hbase hline, ?_⟩
  refine ho w σ H m s' _ fun v H1 m1 f1 h1 => ?_
  cases h1
  refine ⟨⟨s, rfl⟩, ?_⟩
  refine he w σ H1 m1 (s'.fr f1) _ fun u H2 m2 f2 h2 => ?_
  exact h w H2 u m2 h2 Q fun t H3 m3 f3 h3 => qq t H3 m3 ((f1.trans f2).trans f3) h3
theorem EV.split (ho : EV X o ρ μ (Ss s) μ1) (he : EV X e ρ μ1 (Ss t) μ2) (h1 : (t.length == 0) = false) (h2 : s.length + 2 ≤ sizeLine)
    (hs : starEach [e] X.env = [(false, eval e X.env)] := by rfl) (hbase : attributeBase o "split" X.env (eval o X.env) = eval o X.env := by rfl) (hline : (apos.endLine == pos.line) = true := by rfl) : EV X (.Call (.Attribute o "split" apos) [e] [] pos) ρ μ (Ls ((Txt.split s t).map .str)) μ2 :=
  EV.m1 F.slot_str_split F.type_str_split mt_split ho he (fun w H u m hu Q q => by
    cases hu
    exact ⟨s, t, rfl, rfl, h1, h2, new_lst m (dqAll_strs _) q⟩) hs hbase hline
theorem EV.join {ys : List Str} (ho : EV X o ρ μ (Ss s) μ1) (he : EV X e ρ μ1 (Ls (ys.map .str)) μ2) (h1 : (ys.map (·.length)).sum + ys.length * s.length ≤ 16777216)
    (hs : starEach [e] X.env = [(false, eval e X.env)] := by rfl) (hbase : attributeBase o "join" X.env (eval o X.env) = eval o X.env := by rfl) (hline : (apos.endLine == pos.line) = true := by rfl) : EV X (.Call (.Attribute o "join" apos) [e] [] pos) ρ μ (Ss (Txt.join s ys)) μ2 :=
  EV.m1 F.slot_str_join F.type_str_join mt_join ho he (fun w H u m hu Q q => by
    cases hu with
    | lst ha hd =>
      rw [dqAll_strs' hd] at ha
      exact ⟨s, _, ys, rfl, rfl, .inl (SqL.of (dl_some ha).2), h1, q _ _ m .refl (Dq.str _)⟩) hs hbase hline
theorem EV.fmtI (h : EV X e ρ μ (Ii i) μ1) (hz : i.natAbs.log2 < 1920) : EV X (.FormattedValue e (-1) none pos) ρ μ (Ss (toString i : String)) μ1 := by
  intro w σ H m s' Q q
  refine ⟨_, pe_fmt (p_ex (e := e)), ?_⟩
  refine h w σ H m s' _ fun v H1 m1 f1 h1 => ?_
  cases h1
  exact .inr ⟨i, rfl, hz, q _ H1 m1 f1 (Dq.str _)⟩
theorem pj_ex : ∀ es : List Expr, PJ X es (es.map (EX X))
  | [] => .nil
  | e :: es => .cons p_ex (pj_ex es)
inductive JV (X : Cx) (ρ : REnv) (μ : Sto) : List Expr → List Str → Prop where
  | nil : JV X ρ μ [] []
  | cons {e : Expr} {s : Str} {es : List Expr} {ss : List Str} (h : EV X e ρ μ (Ss s) μ) (r : JV X ρ μ es ss) : JV X ρ μ (e :: es) (s :: ss)
noncomputable def catS : Str → List Str → Str
  | acc, [] => acc
  | acc, s :: ss => catS (acc ++ s) ss
noncomputable def fitS : Str → List Str → Prop
  | _, [] => True
  | acc, s :: ss => (acc ++ s).length ≤ sizeLine ∧ fitS (acc ++ s) ss
theorem jv_run (w : Wd) : ∀ {es : List Expr} {ss : List Str}, JV X ρ μ es ss → ∀ (acc : Str) (σ : L2.St) (H : Hp) (Q : Str → Hp → Prop), Mem X.K H w μ → Sl X.K H w σ ρ → fitS acc ss → (∀ H', Mem X.K H' w μ → Fr w.α H H' → Q (catS acc ss) H') → tJs (es.map (EX X)) acc σ H Q
  | [], _, .nil, acc, σ, H, Q, m, s, _, q => q H m .refl
  | e :: es, _, .cons h r, acc, σ, H, Q, m, s, f, q => by
    show EX X e σ H _
    refine h w σ H m s _ fun v H1 m1 f1 h1 => ?_
    cases h1
    exact ⟨_, rfl, f.1, jv_run w r _ σ H1 Q m1 (s.fr f1) f.2 fun H2 m2 f2 => q H2 m2 (f1.trans f2)⟩
theorem EV.joined {v1 v2 : Expr} {rest : List Expr} {ss : List Str} (h : JV X ρ μ (v1 :: v2 :: rest) ss) (hf : fitS Str.empty ss) : EV X (.JoinedStr (v1 :: v2 :: rest) pos) ρ μ (Ss (catS Str.empty ss)) μ := by
  intro w σ H m s Q q
  exact ⟨_, pe_joined (pj_ex _), jv_run w h Str.empty σ H _ m s hf fun H' m' f' => q _ H' m' f' (Dq.str _)⟩
end
inductive Out where
  | nx (ρ : REnv) (μ : Sto)
  | ret (r : Ent) (μ : Sto)
  | brk (ρ : REnv) (μ : Sto)
  | ct (ρ : REnv) (μ : Sto)
  | rse (ρ : REnv) (μ : Sto) (C : Addr) (fs : List (Str × PyData))
noncomputable abbrev W0 : WX := fun _ _ _ _ => False
noncomputable def Xd (H : Hp) (w : Wd) (od : Option Addr) (fs : List (Str × PyData)) : Prop := match od with
  | none => fs = []
  | some d => ∃ ws : List (Str × V), H d = some (.xd ws) ∧ d ∉ w.all ∧ ws.map (·.1) = fs.map (·.1) ∧ DqAll (dl H w.all) (ws.map (·.2)) (fs.map (·.2))
noncomputable abbrev Wd.add (w : Wd) (β : List Addr) : Wd := ⟨w.α ++ β, w.ξ⟩
noncomputable abbrev Wd.cut (w : Wd) (n : Nat) : Wd := ⟨w.α.take n, w.ξ⟩
noncomputable def Nx (X : Cx) (w : Wd) (H : Hp) (k : Wd → L2.St → Hp → Prop) (ρ : REnv) (μ : Sto) : Prop := ∀ β σ H', Mem X.K H' (w.add β) μ → Sl X.K H' (w.add β) σ ρ → Fr w.α H H' → (∀ b ∈ β, Nw H b) → k (w.add β) σ H'
noncomputable def Fin (X : Cx) (W : WX) (n : Nat) (w : Wd) (H : Hp) (D : Ends) : Out → Prop
  | .nx ρ μ => Nx X w H (fun _ => D.nx) ρ μ
  | .brk ρ μ => Nx X w H (fun _ => D.bk) ρ μ
  | .ct ρ μ => Nx X w H (fun _ => D.ct) ρ μ
  | .ret r μ => ∀ v H', Mem X.K H' (w.cut n) μ → Fr w.α H H' → Val X.K H' (w.cut n) v r → D.rt v H'
  | .rse ρ μ C fs => ∀ od, Nx X w H (fun w' σ H' => Xd H' w' od fs → W (.ref C) od σ H') ρ μ
noncomputable def ST (X : Cx) (W : WX) (n : Nat) (sts : List Stmt) (ρ : REnv) (μ : Sto) (P : Out → Prop) : Prop :=
  ∀ w σ H D, n ≤ w.α.length → Mem X.K H w μ → Sl X.K H w σ ρ → (∀ o, P o → Fin X W n w H D o) → SX X sts D σ H
section
variable {X : Cx} {W : WX} {n : Nat} {w : Wd} {H H' : Hp} {D : Ends} {o : Out} {β : List Addr} {k : Wd → L2.St → Hp → Prop} {ρ : REnv} {μ : Sto}
theorem wd_add_add {β β' : List Addr} : (w.add β).add β' = w.add (β ++ β') := by simp [Wd.add]
theorem Nx.grow (h : Nx X w H k ρ μ) (f : Fr w.α H H') (hb : ∀ b ∈ β, Nw H b) : Nx X (w.add β) H' k ρ μ := by
  intro β' σ H2 m s f2 hb2
  rw [wd_add_add] at m s ⊢
  refine h (β ++ β') σ H2 m s (fun b o e hn nt => ?_) fun b hb3 => ?_
  · refine f2 b o (f b o e hn nt) (fun z => ?_) nt
    rcases List.mem_append.mp z with z | z
    · exact hn z
    · exact hb b z o e nt
  · rcases List.mem_append.mp hb3 with z | z
    · exact hb b z
    · refine Nw.back f (hb2 b z) fun y => ?_
      have nd := m.nd
      have : b ∈ w.α ∧ b ∈ β ++ β' := ⟨y, List.mem_append_right _ z⟩
      exact (List.nodup_append.mp nd).2.2 b this.1 b this.2 rfl
theorem take_add {n : Nat} (hn : n ≤ w.α.length) : (w.add β).cut n = w.cut n := by
  show (⟨(w.α ++ β).take n, w.ξ⟩ : Wd) = ⟨w.α.take n, w.ξ⟩
  rw [List.take_append_of_le_length hn]
theorem Fin.grow (h : Fin X W n w H D o) (hn : n ≤ w.α.length) (f : Fr w.α H H') (hb : ∀ b ∈ β, Nw H b) : Fin X W n (w.add β) H' D o := by
  cases o with
  | nx ρ μ => exact Nx.grow (X := X) (k := fun _ => D.nx) h f hb
  | brk ρ μ => exact Nx.grow (X := X) (k := fun _ => D.bk) h f hb
  | ct ρ μ => exact Nx.grow (X := X) (k := fun _ => D.ct) h f hb
  | rse ρ μ C fs => exact fun od => Nx.grow (X := X) (h od) f hb
  | ret r μ =>
    intro v H2 m f2 hv
    rw [take_add hn] at m hv
    refine h v H2 m (fun b o e hn nt => ?_) hv
    refine f2 b o (f b o e hn nt) (fun z => ?_) nt
    rcases List.mem_append.mp z with z | z
    · exact hn z
    · exact hb b z o e nt
theorem add_nil : w.add [] = w := by simp [Wd.add]
theorem Fin.step (h : Fin X W n w H D o) (hn : n ≤ w.α.length) (f : Fr w.α H H') : Fin X W n w H' D o := by
  have := Fin.grow (β := []) h hn f fun b hb => absurd hb (by simp)
  rwa [add_nil] at this
end
noncomputable def frz (n : Nat) (μ : Sto) : Ent → Ent
  | .ptr k => if k < n then .ptr k else .dat (.list (μ.getD k []))
  | r => r
theorem val_frz {K : PySem.W.Frag} {H : Hp} {w : Wd} {μ : Sto} {v : V} {r : Ent} {n : Nat} (m : Mem K H w μ) (h : Val K H w v r) : Val K H (w.cut n) v (frz n μ r) := by
  have sub : Same (dl H w.all) (dl H (w.cut n).all) := dl_sub fun b hb => (List.mem_append.mp hb).elim (fun z => List.mem_append_left _ (List.mem_of_mem_take z)) fun z => List.mem_append_right _ z
  cases r with
  | dat d => exact dq_mono sub _ _ h
  | obj C fs =>
    obtain ⟨x, dx, ws, e, hx, hn, hd⟩ := h
    exact ⟨x, dx, ws, e, sub _ _ hx, hn, dqAll_mono sub _ _ hd⟩
  | scr ns =>
    obtain ⟨a, e, hs⟩ := h
    exact ⟨a, e, Same.seq sub hs⟩
  | raw u => exact h
  | exc a d fs =>
    obtain ⟨e, ws, hx, hn, hd⟩ := h
    exact ⟨e, ws, sub _ _ hx, hn, dqAll_mono sub _ _ hd⟩
  | ptr k =>
    obtain ⟨a, ha, rfl⟩ := h
    show Val K H (w.cut n) (V.ref a) (if k < n then Ent.ptr k else Ent.dat (PyData.list (List.getD μ k [])))
    by_cases hk : k < n
    · rw [if_pos hk]
      exact ⟨a, by rw [List.getElem?_take, if_pos hk]; exact ha, rfl⟩
    · rw [if_neg hk]
      have hl : k < μ.length := by rw [← m.len]; exact (List.getElem?_eq_some_iff.mp ha).1
      obtain ⟨vs, e, hd⟩ := m.cell k a μ[k] ha (by simp [hl])
      have e2 : μ.getD k [] = μ[k] := by simp [List.getD, hl]
      rw [e2]
      refine Dq.lst (dl_of (fun z => ?_) e) (dqAll_mono sub _ _ hd)
      rcases List.mem_append.mp z with z | z
      · obtain ⟨j, hj, ej⟩ := List.mem_take_iff_getElem.mp z
        obtain ⟨hkl, hke⟩ := List.getElem?_eq_some_iff.mp ha
        exact List.pairwise_iff_getElem.mp m.nd j k (by omega) hkl (by omega) (by rw [ej, hke])
      · exact m.out a z (List.mem_iff_getElem?.mpr ⟨k, ha⟩)
theorem Mem.cut {K : PySem.W.Frag} {H : Hp} {w : Wd} {μ : Sto} (m : Mem K H w μ) (n : Nat) : Mem K H (w.cut n) (μ.take n) := by
  have sub : Same (dl H w.all) (dl H (w.cut n).all) := dl_sub fun b hb => (List.mem_append.mp hb).elim (fun z => List.mem_append_left _ (List.mem_of_mem_take z)) fun z => List.mem_append_right _ z
  refine ⟨m.nd.sublist (List.take_sublist _ _), by simp [m.len], fun k a xs h1 h2 => ?_, fun b hb z => m.out b hb (List.mem_of_mem_take z), m.ext, m.tab⟩
  rw [List.getElem?_take] at h1 h2
  by_cases hk : k < n
  · rw [if_pos hk] at h1 h2
    obtain ⟨vs, e, hd⟩ := m.cell k a xs h1 h2
    exact ⟨vs, e, dqAll_mono sub _ _ hd⟩
  · rw [if_neg hk] at h1
    cases h1
section
variable {X : Cx} {W : WX} {n : Nat} {ρ ρ1 : REnv} {μ μ1 μ2 : Sto} {P : Out → Prop} {e c tg iter elt : Expr} {rest body orelse : List Stmt} {pos p' p2 : Pos} {x : Str} {r : Ent} {d : PyData} {ds out : List PyData}
noncomputable def thenP (X : Cx) (W : WX) (n : Nat) (rest : List Stmt) (P : Out → Prop) : Out → Prop
  | .nx ρ μ => ST X W n rest ρ μ P
  | o => P o
theorem ST.nil (h : P (.nx ρ μ)) : ST X W n [] ρ μ P := fun w σ H D hn m s q => ⟨_, pss_nil, by
  have := q _ h [] σ H (by rw [add_nil]; exact m) (by rw [add_nil]; exact s) .refl fun b hb => absurd hb (by simp)
  exact this⟩
theorem ST.set {i : Nat} (h : EV X e ρ μ r μ1) (hN : X.N.Nodup) (hi : X.N[i]? = some x) (hx : Loc X.env.scope x) (hr : ST X W n rest (ρ.set i (some r)) μ1 P) (hs : swapsWith e (some (.Name x p')) pos.line X.env = pure false := by rfl)
    (hf : X.fn x = true ∨ X.env.scope.names.lookup x = some .local := by first | exact .inl rfl | exact .inr rfl | assumption) : ST X W n (.Assign [.Name x p'] e pos :: rest) ρ μ P := by
  intro w σ H D hn m s q
  refine ⟨_, pss_cons (ps_set hN hi hx (p_ex (e := e)) hs hf) p_sx, ?_⟩
  refine h w σ H m s _ fun v H1 m1 f1 h1 => ?_
  exact hr w _ H1 D hn m1 ((s.fr f1).set h1) fun o ho => (q o ho).step hn f1
theorem new_cell {K : PySem.W.Frag} {H H1 : Hp} {w : Wd} {p : Addr} {vs : List V} {σ : L2.St} {i : Nat} (m : Mem K H w μ) (s : Sl K H w σ ρ) (m1 : Mem K H1 (wk' w p) μ1) (f1 : Fr w.α H H1) (hp : Nw H p) (e1 : H1 p = some (.lst vs)) (hd : DqAll (dl H1 (wk' w p).all) vs ds) :
    Mem K H1 (w.add [p]) (μ1 ++ [ds]) ∧ Sl K H1 (w.add [p]) (σ.set i (some (.ref p))) (ρ.set i (some (.ptr μ1.length))) := by
  have ha : p ∉ w.α := fun z => m.freshN hp (List.mem_append_left _ z)
  have all_eq : ∀ b, b ∈ (w.add [p]).all ↔ b ∈ (wk' w p).all := fun b => by
    rw [all_wk']
    simp only [Wd.all, List.mem_append, List.mem_cons, List.not_mem_nil, or_false]
    constructor
    · rintro ((h | h) | h)
      · exact .inr (.inl h)
      · exact .inl h
      · exact .inr (.inr h)
    · rintro (h | h | h)
      · exact .inl (.inr h)
      · exact .inl (.inl h)
      · exact .inr h
  have g : Same (dl H1 (wk' w p).all) (dl H1 (w.add [p]).all) := dl_sub fun b hb => (all_eq b).mp hb
  have len1 : w.α.length = μ1.length := m1.len
  have mm : Mem K H1 (w.add [p]) (μ1 ++ [ds]) := by
    refine ⟨List.nodup_append.mpr ⟨m.nd, by simp, fun a h b h' => by simp at h'; subst h'; exact fun z => ha (z ▸ h)⟩, by simp [len1], fun k a xs h1 h2 => ?_, fun b hb z => ?_, fun b hb => m1.ext b (List.mem_cons_of_mem _ hb), m1.tab⟩
    · by_cases hk : k < w.α.length
      · have h1' : w.α[k]? = some a := by rwa [List.getElem?_append_left hk] at h1
        have h2' : μ1[k]? = some xs := by rwa [List.getElem?_append_left (by omega)] at h2
        obtain ⟨us, e, hd'⟩ := m1.cell k a xs h1' h2'
        exact ⟨us, e, dqAll_mono g _ _ hd'⟩
      · rw [List.getElem?_append_right (by omega)] at h1 h2
        rw [len1] at h1
        cases hj : k - μ1.length with
        | zero =>
          rw [hj] at h1 h2
          simp at h1 h2
          subst h1
          subst h2
          exact ⟨vs, e1, dqAll_mono g _ _ hd⟩
        | succ j =>
          rw [hj] at h1
          simp at h1
    · rcases List.mem_append.mp z with z | z
      · exact m.out b hb z
      · obtain ⟨o, eo, po⟩ := m.ext b hb
        have : b = p := by simpa using z
        exact hp o (this ▸ eo) po.1
  refine ⟨mm, ?_⟩
  have s1 : Sl K H1 (w.add [p]) σ ρ := by
    have g2 : Same (dl H w.all) (dl H1 (w.add [p]).all) := (keep_outN (K := K) hp f1 ⟨_, e1⟩).trans g
    refine ⟨s.len, fun i r e => ?_⟩
    obtain ⟨v, a, b⟩ := s.at_ i r e
    refine ⟨v, a, ?_⟩
    cases r with
    | dat d => exact dq_mono g2 d v b
    | ptr k =>
      obtain ⟨a0, h0, h1⟩ := b
      exact ⟨a0, by rw [List.getElem?_append_left (List.getElem?_eq_some_iff.mp h0).1]; exact h0, h1⟩
    | obj C fs =>
      obtain ⟨x, dx, ws, e, hx, hn, hd⟩ := b
      exact ⟨x, dx, ws, e, g2 _ _ hx, hn, dqAll_mono g2 _ _ hd⟩
    | scr ns =>
      obtain ⟨a, e, hs⟩ := b
      exact ⟨a, e, Same.seq g2 hs⟩
    | raw u => exact b
    | exc a d fs =>
      obtain ⟨e, ws, hx, hn, hd⟩ := b
      exact ⟨e, ws, g2 _ _ hx, hn, dqAll_mono g2 _ _ hd⟩
  refine s1.set ⟨p, ?_, rfl⟩
  rw [List.getElem?_append_right (by omega), len1]
  simp
theorem ST.cell {i : Nat} (h : EVF X e ρ μ ds μ1) (hN : X.N.Nodup) (hi : X.N[i]? = some x) (hx : Loc X.env.scope x) (hr : ST X W n rest (ρ.set i (some (.ptr μ1.length))) (μ1 ++ [ds]) P) (hs : swapsWith e (some (.Name x p')) pos.line X.env = pure false := by rfl)
    (hf : X.fn x = true ∨ X.env.scope.names.lookup x = some .local := by first | exact .inl rfl | exact .inr rfl | assumption) : ST X W n (.Assign [.Name x p'] e pos :: rest) ρ μ P := by
  intro w σ H D hn m s q
  refine ⟨_, pss_cons (ps_set hN hi hx (p_ex (e := e)) hs hf) p_sx, ?_⟩
  refine h w σ H m s _ fun p H1 vs m1 f1 hp e1 hd => ?_
  obtain ⟨mm, ss⟩ := new_cell (i := i) m s m1 f1 hp e1 hd
  exact hr (w.add [p]) _ H1 D (by simp; omega) mm ss fun o ho => Fin.grow (q o ho) hn f1 fun b hb => by
    have : b = p := by simpa using hb
    rw [this]; exact hp
theorem ST.lc {i : Nat} {ifs : List Expr} {scope : Scope} {own : List (Str × Nat)} {lpos : Pos} (h : LCV X elt tg iter ifs scope own ρ μ out μ1) (hc : X.calm = true) (hN : X.N.Nodup) (hi : X.N[i]? = some x) (hx : X.env.scope.names.lookup x = some .local) (ok : BlkOk X.N X.env.scope scope own)
    (hr : ST X W n rest (ρ.set i (some (Ls out))) μ1 P) (hsw : swapsWith (.ListComp elt [⟨tg, iter, ifs, 0⟩] scope lpos) (some (.Name x p')) pos.line X.env = pure true) (hst : ∀ x, foldedSetIterable iter X.env x = pure x := by intro _; rfl) :
    ST X W n (.Assign [.Name x p'] (.ListComp elt [⟨tg, iter, ifs, 0⟩] scope lpos) pos :: rest) ρ μ P := by
  intro w σ H D hn m s q
  refine ⟨_, pss_cons (ps_setLc (i := i) hc hN hi hx hsw (p_ix (tg := tg) (e := iter)) ok pg_C pts_C pe_C hst) p_sx, ?_⟩
  show tLc _ _ _ _ _ σ H fun v H1 => SX X rest D (σ.set i (some v)) H1
  refine h w σ H m s _ fun p H1 vs m1 f1 hp e1 hd => ?_
  have hv : Val X.K H1 w (.ref p) (Ls out) := Dq.lst (dl_of (m.freshN hp) e1) (dqAll_mono (dl_sub fun b hb => all_wk'.mpr (.inr hb)) _ _ hd)
  exact hr w _ H1 D hn m1.unkeep ((s.fr f1).set hv) fun o ho => (q o ho).step hn f1
theorem ST.asg {is : List Nat} (h : EV X e ρ μ (.dat d) μ1) (hg : GV X tg d ρ ρ1 is) (hr : ST X W n rest ρ1 μ1 P) (hs : swapsWithSole [tg] e pos.line X.env = pure false := by rfl) (hw : swappedStores [tg] e X.env = pure none := by rfl)
    (h1 : (assignEach [tg] X.env).map (·.2) = [assign tg X.env] := by rfl) : ST X W n (.Assign [tg] e pos :: rest) ρ μ P := by
  intro w σ H D hn m s q
  refine ⟨_, pss_cons (ps_asg (p_ex (e := e)) (p_gx (e := tg)) hs hw h1) p_sx, ?_⟩
  refine h w σ H m s _ fun v H1 m1 f1 hv => ?_
  refine hg w σ H1 μ1 v m1 (s.fr f1) hv _ fun σ1 s1 _ => ?_
  exact hr w _ H1 D hn m1 s1 fun o ho => (q o ho).step hn f1
theorem ST.par {i j : Nat} {x y : Str} {a b : Expr} {px py pt : Pos} {kt k2 pt2} {r1 r2 : Ent} (ha : AV X [a, b] ρ μ [r1, r2] μ1) (hN : X.N.Nodup) (hi : X.N[i]? = some x) (hj : X.N[j]? = some y) (hij : i ≠ j)
    (hx : X.env.scope.names.lookup x = some .local) (hy : X.env.scope.names.lookup y = some .local) (hr : ST X W n rest ((ρ.set i (some r1)).set j (some r2)) μ1 P)
    (hw : swappedStores [.Tuple [.Name x px, .Name y py] kt pt] (.Tuple [a, b] k2 pt2) X.env = pure (some [x, y])) (hc : X.calm = true := by rfl)
    (hs : swapsWithSole [.Tuple [.Name x px, .Name y py] kt pt] (.Tuple [a, b] k2 pt2) pos.line X.env = pure false := by rfl) : ST X W n (.Assign [.Tuple [.Name x px, .Name y py] kt pt] (.Tuple [a, b] k2 pt2) pos :: rest) ρ μ P := by
  intro w σ H D hn m s q
  refine ⟨_, pss_cons (ps_par hc hN hi hj hij hx hy (p_ax (e := [a, b])) hw hs) p_sx, ?_⟩
  refine ha w σ H m s _ fun vs H1 m1 f1 hv => ?_
  obtain ⟨v1, us, rfl, h1, h2⟩ := hv.inv
  obtain ⟨v2, us, rfl, h3, h4⟩ := h2.inv
  obtain rfl := h4.inv0
  exact ⟨v1, v2, rfl, hr w _ H1 D hn m1 (((s.fr f1).set h1).set h3) fun o ho => (q o ho).step hn f1⟩
theorem ST.expr (h : EV X e ρ μ r μ1) (hr : ST X W n rest ρ μ1 P) (hs : swapsWith e none pos.line X.env = pure false := by rfl) : ST X W n (.Expr e pos :: rest) ρ μ P := by
  intro w σ H D hn m s q
  refine ⟨_, pss_cons (ps_expr (p_ex (e := e)) hs) p_sx, ?_⟩
  refine h w σ H m s _ fun v H1 m1 f1 hv => ?_
  exact hr w σ H1 D hn m1 (s.fr f1) fun o ho => (q o ho).step hn f1
theorem ST.ret (h : EV X e ρ μ r μ1) (hP : P (.ret (frz n μ1 r) (μ1.take n))) : ST X W n (.Return (some e) pos :: rest) ρ μ P := by
  intro w σ H D hn m s q
  refine ⟨_, pss_cons (ps_ret (p_ex (e := e))) pss_never, ?_⟩
  refine h w σ H m s _ fun v H1 m1 f1 hv => ?_
  exact q _ hP v H1 (m1.cut n) f1 (val_frz m1 hv)
theorem ST.iff {k : Bool} (h : TV X c ρ μ k μ1) (h1 : k = true → ST X W n body ρ μ1 (thenP X W n rest P)) (h2 : k = false → ST X W n orelse ρ μ1 (thenP X W n rest P)) : ST X W n (.If c body orelse pos :: rest) ρ μ P := by
  intro w σ H D hn m s q
  refine ⟨_, pss_cons (ps_if (p_tx (e := c)) p_sx p_sx) p_sx, ?_⟩
  refine h w σ H m s _ fun H1 m1 f1 => ?_
  have fin : ∀ o, thenP X W n rest P o → Fin X W n w H1 { D with nx := SX X rest D } o := by
    intro o ho
    cases o with
    | nx ρ' μ' =>
      intro β σ' H2 m2 s2 f2 hb
      refine ho (w.add β) σ' H2 D (by simp; omega) m2 s2 fun o ho => ?_
      exact Fin.grow (β := β) ((q o ho).step hn f1) hn f2 hb
    | ret r μ' => exact (Fin.step (o := .ret r μ') (q _ ho) hn f1 : Fin X W n w H1 D (.ret r μ'))
    | brk ρ' μ' => exact (Fin.step (o := .brk ρ' μ') (q _ ho) hn f1 : Fin X W n w H1 D (.brk ρ' μ'))
    | ct ρ' μ' => exact (Fin.step (o := .ct ρ' μ') (q _ ho) hn f1 : Fin X W n w H1 D (.ct ρ' μ'))
    | rse ρ' μ' C fs => exact (Fin.step (o := .rse ρ' μ' C fs) (q _ ho) hn f1 : Fin X W n w H1 D (.rse ρ' μ' C fs))
  cases k with
  | true => exact iteT (h1 rfl w σ H1 _ hn m1 (s.fr f1) fin)
  | false => exact iteF (h2 rfl w σ H1 _ hn m1 (s.fr f1) fin)
theorem ST.mono {P' : Out → Prop} {sts : List Stmt} (h : ST X W n sts ρ μ P) (i : ∀ o, P o → P' o) : ST X W n sts ρ μ P' := fun w σ H D hn m s q => h w σ H D hn m s fun o ho => q o (i o ho)
theorem ST.for_ {is : List Nat} (hi : IV X tg iter ρ μ ds μ1) (Iv : Nat → REnv → Sto → Prop) (h0 : Iv 0 ρ μ1)
    (hs : ∀ (i : Nat) (d : PyData) (ρ : REnv) (μ : Sto), ds[i]? = some d → Iv i ρ μ → ∃ ρ', GV X tg d ρ ρ' is ∧ ST X W n body ρ' μ fun
      | .nx ρ μ => Iv (i + 1) ρ μ
      | .ct ρ μ => Iv (i + 1) ρ μ
      | .brk ρ μ => thenP X W n rest P (.nx ρ μ)
      | .ret r μ => P (.ret r μ)
      | .rse ρ μ C fs => P (.rse ρ μ C fs))
    (hd : ∀ ρ μ, Iv ds.length ρ μ → ST X W n rest ρ μ P) (hc : X.calm = true := by rfl) (hp : PassesOwn (model X.prog X.w) X.A X.env X.xe := by exact PassesOwn.never) (hst : ∀ x, foldedSetIterable iter X.env x = pure x := by intro _; rfl) : ST X W n (.For tg iter body [] pos :: rest) ρ μ P := by
  intro w σ H D hn m s q
  refine ⟨_, pss_cons (ps_for hp hc (p_ix (tg := tg) (e := iter)) (p_gx (e := tg)) (p_sx (e := body)) hst) (p_sx (e := rest)), ?_⟩
  refine hi w σ H m s _ fun J H1 m1 f1 wk => ?_
  refine ⟨fun i k σ' H' => k = ds.length - i ∧ i ≤ ds.length ∧ ∃ β ρ' μ', Iv i ρ' μ' ∧ Mem X.K H' (w.add β) μ' ∧ Sl X.K H' (w.add β) σ' ρ' ∧ Fr w.α H1 H' ∧ ∀ b ∈ β, Nw H1 b,
    ⟨ds.length, by simp, Nat.zero_le _, [], ρ, μ1, h0, by rw [add_nil]; exact m1, by rw [add_nil]; exact s.fr f1, .refl, fun b hb => absurd hb (by simp)⟩, ?_⟩
  rintro i k σ' H' ⟨rfl, hi', β, ρ', μ', iv, m2, s2, f2, hb⟩
  have g : Same (dl H1 w.all) H' := f2.all.trans dl_same
  have hn2 : n ≤ (w.add β).α.length := by simp; omega
  have grow : ∀ o, P o → Fin X W n (w.add β) H' D o := fun o ho => Fin.grow ((q o ho).step hn f1) hn f2 hb
  by_cases hlt : i < ds.length
  · obtain ⟨d, hdi⟩ : ∃ d, ds[i]? = some d := ⟨ds[i], by simp [hlt]⟩
    obtain ⟨go, yl⟩ := wk.go H' g i d hdi
    refine .inr ⟨go, fun σ3 H3 => ∃ β ρ' μ', Iv (i + 1) ρ' μ' ∧ Mem X.K H3 (w.add β) μ' ∧ Sl X.K H3 (w.add β) σ3 ρ' ∧ Fr w.α H1 H3 ∧ ∀ b ∈ β, Nw H1 b, fun σ3 H3 h => ⟨ds.length - (i + 1), by omega, rfl, hlt, h⟩, fun x H3 y3 => ?_⟩
    obtain ⟨s23, dx⟩ := yl x H3 y3
    have gT : Same (dl H1 w.all) (dl H' (w.add β).all) := fun b o e => by
      have nt := dl_nt e
      obtain ⟨n1, e1⟩ := dl_some e
      refine dl_of (fun z => ?_) (f2 b o e1 (fun z => n1 (List.mem_append_left _ z)) nt) nt
      rcases List.mem_append.mp z with z | z
      · rcases List.mem_append.mp z with z | z
        · exact n1 (List.mem_append_left _ z)
        · exact hb b z o e1 nt
      · exact n1 (List.mem_append_right _ z)
    have dx3 : Dq (dl H3 (w.add β).all) x d := dx _ gT fun b hb' => by
      rcases List.mem_append.mp hb' with z | z
      · obtain ⟨vs, e⟩ := m2.there z
        exact ⟨_, e⟩
      · exact m2.ex1 z
    have f23 : Fr (w.add β).α H' H3 := Fr.of_same s23
    obtain ⟨ρ3, hg, hbody⟩ := hs i d ρ' μ' hdi iv
    refine hg (w.add β) σ' H3 μ' x (m2.same s23) (s2.fr f23) dx3 _ fun σ4 s4 _ => ?_
    refine hbody (w.add β) σ4 H3 _ hn2 (m2.same s23) s4 fun o ho => ?_
    have go_on : ∀ ρ5 μ5, Iv (i + 1) ρ5 μ5 → Nx X (w.add β) H3 (fun _ σ3 H3 => ∃ β ρ' μ', Iv (i + 1) ρ' μ' ∧ Mem X.K H3 (w.add β) μ' ∧ Sl X.K H3 (w.add β) σ3 ρ' ∧ Fr w.α H1 H3 ∧ ∀ b ∈ β, Nw H1 b) ρ5 μ5 := by
      intro ρ5 μ5 iv5 β' σ5 H5 m5 s5 f5 hb5
      rw [wd_add_add] at m5 s5
      have f15 : Fr w.α H1 H5 := fun b o e nb nt => by
        refine f5 b o (s23 _ _ (f2 b o e nb nt)) (fun z => ?_) nt
        rcases List.mem_append.mp z with z | z
        · exact nb z
        · exact hb b z o e nt
      refine ⟨β ++ β', ρ5, μ5, iv5, m5, s5, f15, fun b hbb => ?_⟩
      rcases List.mem_append.mp hbb with z | z
      · exact hb b z
      · exact Nw.back (f2.trans (Fr.of_same s23)) (hb5 b z) fun y => (List.nodup_append.mp m5.nd).2.2 b y b (List.mem_append_right _ z) rfl
    cases o with
    | nx ρ5 μ5 => exact go_on ρ5 μ5 ho
    | ct ρ5 μ5 => exact go_on ρ5 μ5 ho
    | ret r μ5 => exact (Fin.step (grow _ ho) hn2 f23 : Fin X W n (w.add β) H3 D (.ret r μ5))
    | rse ρ5 μ5 C fs => exact (Fin.step (grow _ ho) hn2 f23 : Fin X W n (w.add β) H3 D (.rse ρ5 μ5 C fs))
    | brk ρ5 μ5 =>
      intro β' σ5 H5 m5 s5 f5 hb5
      exact ho ((w.add β).add β') σ5 H5 D (by simp; omega) m5 s5 fun o ho => Fin.grow (Fin.step (grow o ho) hn2 f23) hn2 f5 hb5
  · have ei : i = ds.length := by omega
    subst ei
    refine .inl ⟨wk.stop H' g, ?_⟩
    exact hd ρ' μ' iv (w.add β) σ' H' D hn2 m2 s2 grow
noncomputable def PostR (r : Ent) (μ : Sto) : Out → Prop
  | .ret r' μ' => r' = r ∧ μ' = μ
  | _ => False
noncomputable def Post (r : Ent) (μ : Sto) : Out → Prop
  | .ret r' μ' => r' = r ∧ μ' = μ
  | .nx _ μ' => r = Nn ∧ ∃ ν, μ' = μ ++ ν
  | _ => False
end
theorem sl_start {K : PySem.W.Frag} {H : Hp} {w : Wd} {N : List Str} {vs : List V} {rs : List Ent} (h : Vas K H w vs rs) (hl : rs.length ≤ N.length) : Sl K H w (L2.start N vs) (rs.map some ++ List.replicate (N.length - rs.length) none) := by
  have e := h.1
  refine ⟨by simp [L2.start, e]; try omega, fun i r hi => ?_⟩
  by_cases hk : i < rs.length
  · rw [List.getElem?_append_left (by simpa using hk), List.getElem?_map] at hi
    have hr : rs[i]? = some r := by
      cases q : rs[i]? with
      | none => rw [q] at hi; cases hi
      | some z => rw [q] at hi; simpa using hi
    have hv : i < vs.length := by omega
    refine ⟨vs[i], ?_, h.2 i vs[i] r (by simp [hv]) hr⟩
    unfold L2.start
    rw [List.getElem?_append_left (by simpa using hv), List.getElem?_map]
    simp [hv]
  · rw [List.getElem?_append_right (by simpa using Nat.le_of_not_lt hk)] at hi
    rw [List.getElem?_replicate] at hi
    split at hi <;> simp at hi
section
variable {w : World} {P : Program} {K : PySem.W.Frag} {base : Heap} {mg : Str → Option Value}
theorem Cal.mk' {x : Str} {st : Stmt} {f : Addr} {fd : FuncData} {N ps : List Str} {k : Nat} {C : List Ent → Sto → Ent → Sto → Prop} (F : Fun K x x st f fd) (hm : mg x = some (.ref f)) (Sc : FnScope N ps (defScope st)) (b : Binds K fd ps []) (hN : ps.length ≤ N.length) (hlen : ∀ rs μ r μ', C rs μ r μ' → μ'.length = μ.length)
    (body : ∀ (cdv : Value) (A : Around) (outer : List Env) (s : Shared) (H : Hp) (E : XK), Room k (A.deeper (envOfC x (defScope st) s.heap.objs.size f cdv)) → ∀ rs μ r μ', rs.length = ps.length → C rs μ r μ' →
      ST (cxOf CX0 P w K mg base N x (defScope st) f cdv A outer s H E).nox W0 μ.length (defBody st) (rs.map some ++ List.replicate (N.length - rs.length) none) μ (Post r μ')) : Cal P w K mg base x (k + 1) ps C := by
  refine ⟨f, fd, ?_, hm, F.kp, b⟩
  refine F.ok Sc (fun vs H Q E h => ?_) (fun cdv A outer s H vs Q E hr h => ?_)
  · obtain ⟨w0, μ, rs, r, μ', _, hv, hl, _⟩ := h
    rw [hv.1, hl]
  · obtain ⟨w0, μ, rs, r, μ', m, hv, hl, hC, q⟩ := h
    have hb := body cdv A outer s H E hr rs μ r μ' hl hC
    refine hb w0 _ H _ (Nat.le_of_eq m.len.symm) m (sl_start hv (by omega)) fun o ho => ?_
    have hw : w0.cut μ.length = w0 := by
      show (⟨w0.α.take μ.length, w0.ξ⟩ : Wd) = w0
      rw [← m.len, List.take_length]
    cases o with
    | ret r2 μ2 =>
      obtain ⟨rfl, rfl⟩ := ho
      intro v H' m' f hv'
      rw [hw] at m' hv'
      exact q v H' m' f hv'
    | nx ρ2 μ2 =>
      obtain ⟨rfl, ν, rfl⟩ := ho
      intro β σ' H' m' s' f hb
      have mc := m'.cut μ'.length
      have e : (w0.add β).cut μ'.length = w0 := by
        show (⟨(w0.α ++ β).take μ'.length, w0.ξ⟩ : Wd) = w0
        rw [hlen _ _ _ _ hC, ← m.len, List.take_left]
      rw [e, List.take_left] at mc
      exact q .non H' mc f Dq.non
    | brk ρ2 μ2 => exact False.elim ho
    | ct ρ2 μ2 => exact False.elim ho
    | rse ρ2 μ2 C fs => exact False.elim ho
end
end J
namespace J
open PySem PySem.Spec
open PyProof.Rows L2
structure Bt (mg : Str → Option Value) : Prop where
  len : mg "len" = none
  str : mg "str" = none
  int : mg "int" = none
  bool : mg "bool" = none
  range : mg "range" = none
  list : mg "list" = none
  tuple : mg "tuple" = none
  all : mg "all" = none
  any : mg "any" = none
  isinstance : mg "isinstance" = none
  enumerate : mg "enumerate" = none
  repr : mg "repr" = none
  abs : mg "abs" = none
  max : mg "max" = none
  min : mg "min" = none
  divmod : mg "divmod" = none
section
variable {X : Cx} {ρ : REnv} {μ μ1 μ2 μ3 : Sto} {x y z r : Ent} {a b c e o tg iter elt : Expr} {es : List Expr} {pos p2 p apos : Pos} {rs : List Ent} {ds out ys : List PyData} {d d2 : PyData} {i j : Int} {s t n : Str} {k l : Bool}
theorem nm (i : Nat) {n : Str} {r : Ent} (hN : X.N[i]? = some n := by rfl) (hv : Vis X.env.scope n := by first | exact Or.inl rfl | exact Or.inr (Or.inl rfl) | exact Or.inr (Or.inr rfl)) (h : ρ[i]? = some (some r) := by rfl) (hd : (n == ("__debug__" : Str)) = false := by decide) (hcd : (n == ("__classdict__" : Str)) = false := by decide) : EV X (.Name n pos) ρ μ r μ := EV.name hN hv h hd hcd
theorem gl {v : V} {u : Value} (hm : X.mg n = some u) (r : RelV v u) (hv : ∀ H, Dq H v d) (hg : Gl X n := by rfl) (hd : (n == ("__debug__" : Str)) = false := by decide) : EV X (.Name n pos) ρ μ (.dat d) μ := fun w σ H m s Q q => ⟨_, pe_glob hg hm r hd, q _ H m .refl (hv _)⟩
theorem oAdd (ha : EV X a ρ μ (Ii i) μ1) (hb : EV X b ρ μ1 (Ii j) μ2) : EV X (.BinOp a .Add b pos) ρ μ (Ii (i + j)) μ2 := ha.op op_add hb (r2_I0 fun _ => .int _)
theorem oSub (ha : EV X a ρ μ (Ii i) μ1) (hb : EV X b ρ μ1 (Ii j) μ2) : EV X (.BinOp a .Sub b pos) ρ μ (Ii (i - j)) μ2 := ha.op op_sub hb (r2_I0 fun _ => .int _)
theorem oMul (ha : EV X a ρ μ (Ii i) μ1) (hb : EV X b ρ μ1 (Ii j) μ2) (h : CMul i j) : EV X (.BinOp a .Mult b pos) ρ μ (Ii (i * j)) μ2 := ha.op op_mul hb (r2_I h fun _ => .int _)
theorem oMod (ha : EV X a ρ μ (Ii i) μ1) (hb : EV X b ρ μ1 (Ii j) μ2) (h : 0 < j) : EV X (.BinOp a .Mod b pos) ρ μ (Ii (i % j)) μ2 := ha.op op_mod hb (r2_I h fun _ => .int _)
theorem oDiv (ha : EV X a ρ μ (Ii i) μ1) (hb : EV X b ρ μ1 (Ii j) μ2) (h : CDiv i j) : EV X (.BinOp a .FloorDiv b pos) ρ μ (Ii (i / j)) μ2 := ha.op op_fdiv hb (r2_I h fun _ => .int _)
theorem oPow (ha : EV X a ρ μ (Ii i) μ1) (hb : EV X b ρ μ1 (Ii j) μ2) (h : CPow i j) : EV X (.BinOp a .Pow b pos) ρ μ (Ii (i ^ j.toNat)) μ2 := ha.op op_pow hb (r2_I h fun _ => .int _)
theorem oAddS (ha : EV X a ρ μ (Ss s) μ1) (hb : EV X b ρ μ1 (Ss t) μ2) (h : s.length + t.length ≤ sizeLine) : EV X (.BinOp a .Add b pos) ρ μ (Ss (s ++ t)) μ2 := ha.op op_add_str hb (r2_addS h)
theorem oCat (ha : EV X a ρ μ (Ls ds) μ1) (hb : EV X b ρ μ1 (Ls ys) μ2) (h : ds.length + ys.length ≤ sizeLine) : EV X (.BinOp a .Add b pos) ρ μ (Ls (ds ++ ys)) μ2 := ha.op op_cat hb (r2_cat h)
theorem oCatT (ha : EV X a ρ μ (Tp ds) μ1) (hb : EV X b ρ μ1 (Tp ys) μ2) (h : ds.length + ys.length ≤ sizeLine) : EV X (.BinOp a .Add b pos) ρ μ (Tp (ds ++ ys)) μ2 := ha.op op_catA hb (r2_catT h)
theorem cLt (ha : EV X a ρ μ (Ii i) μ1) (hb : EV X b ρ μ1 (Ii j) μ2) : EV X (.Compare a [.Lt] [b] pos) ρ μ (Bb (decide (i < j))) μ2 := ha.cmp op_lt (nomark _) hb (r2_I0 fun _ => .bl _)
theorem cGt (ha : EV X a ρ μ (Ii i) μ1) (hb : EV X b ρ μ1 (Ii j) μ2) : EV X (.Compare a [.Gt] [b] pos) ρ μ (Bb (decide (j < i))) μ2 := ha.cmp op_gt (nomark _) hb (r2_I0 fun _ => .bl _)
theorem tLt (ha : EV X a ρ μ (Ii i) μ1) (hb : EV X b ρ μ1 (Ii j) μ2) : TV X (.Compare a [.Lt] [b] pos) ρ μ (decide (i < j)) μ2 := TV.cmp op_lt (nomark _) ha hb (r2_I0 fun _ => .bl _)
theorem tLe (ha : EV X a ρ μ (Ii i) μ1) (hb : EV X b ρ μ1 (Ii j) μ2) : TV X (.Compare a [.LtE] [b] pos) ρ μ (decide (i ≤ j)) μ2 := TV.cmp op_le (nomark _) ha hb (r2_I0 fun _ => .bl _)
theorem tGt (ha : EV X a ρ μ (Ii i) μ1) (hb : EV X b ρ μ1 (Ii j) μ2) : TV X (.Compare a [.Gt] [b] pos) ρ μ (decide (j < i)) μ2 := TV.cmp op_gt (nomark _) ha hb (r2_I0 fun _ => .bl _)
theorem tGe (ha : EV X a ρ μ (Ii i) μ1) (hb : EV X b ρ μ1 (Ii j) μ2) : TV X (.Compare a [.GtE] [b] pos) ρ μ (decide (j ≤ i)) μ2 := TV.cmp op_ge (nomark _) ha hb (r2_I0 fun _ => .bl _)
theorem cEq (ha : EV X a ρ μ (.dat d) μ1) (hb : EV X b ρ μ1 (.dat d2) μ2) (h : likeD d d2 = true := by rfl) : EV X (.Compare a [.Eq] [b] pos) ρ μ (Bb (eqS d d2)) μ2 := ha.cmp op_eq (nomark _) hb (r2_eq h)
theorem cNe (ha : EV X a ρ μ (.dat d) μ1) (hb : EV X b ρ μ1 (.dat d2) μ2) (h : likeD d d2 = true := by rfl) : EV X (.Compare a [.NotEq] [b] pos) ρ μ (Bb (!eqS d d2)) μ2 := ha.cmp op_ne (nomark _) hb (r2_ne h)
theorem tEq (ha : EV X a ρ μ (.dat d) μ1) (hb : EV X b ρ μ1 (.dat d2) μ2) (h : likeD d d2 = true := by rfl) : TV X (.Compare a [.Eq] [b] pos) ρ μ (eqS d d2) μ2 := TV.cmp op_eq (nomark _) ha hb (r2_eq h)
theorem tNe (ha : EV X a ρ μ (.dat d) μ1) (hb : EV X b ρ μ1 (.dat d2) μ2) (h : likeD d d2 = true := by rfl) : TV X (.Compare a [.NotEq] [b] pos) ρ μ (!eqS d d2) μ2 := TV.cmp op_ne (nomark _) ha hb (r2_ne h)
theorem tNeD (hu : X.A.units + 64 < cLine) (ha : EV X a ρ μ (.dat d) μ1) (hb : EV X b ρ μ1 (.dat d2) μ2) (h1 : SeqAt.shaped d = true) (h2 : SeqAt.shaped d2 = true) : TV X (.Compare a [.NotEq] [b] pos) ρ μ (!PyData.eqv d d2) μ2 := TV.cmp (op_neD hu) (nomark _) ha hb (r2_neD h1 h2)
theorem cEqD (hu : X.A.units + 64 < cLine) (ha : EV X a ρ μ (.dat d) μ1) (hb : EV X b ρ μ1 (.dat d2) μ2) (h1 : SeqAt.shaped d = true) (h2 : SeqAt.shaped d2 = true) : EV X (.Compare a [.Eq] [b] pos) ρ μ (Bb (PyData.eqv d d2)) μ2 := ha.cmp (op_eqD hu) (nomark _) hb (r2_eqD h1 h2)
theorem cNotN {kk} (ha : EV X a ρ μ (.dat d) μ1) : EV X (.Compare a [.IsNot] [.Constant .none kk p2] pos) ρ μ (Bb (!isNone d)) μ1 := ha.cmp op_notN (nomark _) EV.non r2_notN
theorem tIsN {kk} (ha : EV X a ρ μ (.dat d) μ1) : TV X (.Compare a [.Is] [.Constant .none kk p2] pos) ρ μ (isNone d) μ1 := TV.cmp op_isN (nomark _) ha EV.non r2_isN
theorem tInL (ha : EV X a ρ μ (.dat d) μ1) (hb : EV X b ρ μ1 (Ls ds) μ2) (h1 : flatD d = true) (h2 : ds.all flatD = true) (hm : behindInMarks .In b = false := by rfl) : TV X (.Compare a [.In] [b] pos) ρ μ (inD d ds) μ2 := TV.cmp op_in_seq hm ha hb (r2_inL (neg := false) h1 h2)
theorem tInT (ha : EV X a ρ μ (.dat d) μ1) (hb : EV X b ρ μ1 (Tp ds) μ2) (h1 : flatD d = true) (h2 : ds.all flatD = true) (hm : behindInMarks .In b = false := by rfl) : TV X (.Compare a [.In] [b] pos) ρ μ (inD d ds) μ2 := TV.cmp op_in_seq hm ha hb (r2_inT (neg := false) h1 h2)
theorem tInC {n0 : Nat} (ha : EV X a ρ μ (.dat d) μ1) (hb : EV X b ρ μ1 (.ptr n0) μ2) (hn : μ2[n0]? = some ds) (h1 : flatD d = true) (h2 : ds.all flatD = true) (hm : behindInMarks .In b = false := by rfl) : TV X (.Compare a [.In] [b] pos) ρ μ (inD d ds) μ2 := TV.cmp op_in_seq hm ha hb (r2_inC (neg := false) hn h1 h2)
theorem tNiC {n0 : Nat} (ha : EV X a ρ μ (.dat d) μ1) (hb : EV X b ρ μ1 (.ptr n0) μ2) (hn : μ2[n0]? = some ds) (h1 : flatD d = true) (h2 : ds.all flatD = true) (hm : behindInMarks .NotIn b = false := by rfl) : TV X (.Compare a [.NotIn] [b] pos) ρ μ (!inD d ds) μ2 := TV.cmp op_notIn_seq hm ha hb (r2_inC (neg := true) hn h1 h2)
theorem tNiT (ha : EV X a ρ μ (.dat d) μ1) (hb : EV X b ρ μ1 (Tp ds) μ2) (h1 : flatD d = true) (h2 : ds.all flatD = true) (hm : behindInMarks .NotIn b = false := by rfl) : TV X (.Compare a [.NotIn] [b] pos) ρ μ (!inD d ds) μ2 := TV.cmp op_notIn_seq hm ha hb (r2_inT (neg := true) h1 h2)
theorem cInL (ha : EV X a ρ μ (.dat d) μ1) (hb : EV X b ρ μ1 (Ls ds) μ2) (h1 : flatD d = true) (h2 : ds.all flatD = true) (hm : behindInMarks .In b = false := by rfl) : EV X (.Compare a [.In] [b] pos) ρ μ (Bb (inD d ds)) μ2 := ha.cmp op_in_seq hm hb (r2_inL (neg := false) h1 h2)
theorem cInSign {c0 : Nat} (ha : EV X a ρ μ (Ss ⟨#[c0]⟩) μ1) (hb : EV X b ρ μ1 (Ss t) μ2) (hm : behindInMarks .In b = false := by rfl) : EV X (.Compare a [.In] [b] pos) ρ μ (Bb (decide (c0 ∈ t.cps.toList))) μ2 := ha.cmp op_in_sign hm hb r2_inSign
theorem r2_inDeep {K : PySem.W.Frag} (h1 : SeqAt.shaped d = true) (h2 : SeqAt.shaped (.list ds) = true) : R2V K (rInD K) (.dat d) (Ls ds) (Bb (ds.any fun z => PyData.eqv z d)) μ := r2v_pure fun w H v u m a b =>
  ⟨_, Dq.bl _, fun Q q => ⟨d, ds, Dq.dp dl_same _ _ a (SeqAt.canLay_of_shaped h1), Dq.dp dl_same _ _ b (SeqAt.canLay_of_shaped h2), h1, h2, q⟩⟩
theorem tInDeep (hu : X.A.units + 65 < cLine) (ha : EV X a ρ μ (.dat d) μ1) (hb : EV X b ρ μ1 (Ls ds) μ2) (h1 : SeqAt.shaped d = true) (h2 : SeqAt.shaped (.list ds) = true) (hm : behindInMarks .In b = false := by rfl) : TV X (.Compare a [.In] [b] pos) ρ μ (ds.any fun z => PyData.eqv z d) μ2 := TV.cmp (op_inD hu) hm ha hb (r2_inDeep h1 h2)
theorem tChainLe {op op' : CmpOp} {g g' : Int → Int → Bool} {i2 : Int} (ho : OpR X (compareOp op) (rI0 fun i j => .bl (g i j))) (ho' : OpR X (compareOp op') (rI0 fun i j => .bl (g' i j))) (ha : EV X a ρ μ (Ii i) μ1) (hb : EV X b ρ μ1 (Ii j) μ2) (hc : EV X c ρ μ2 (Ii i2) μ2)
    (hm : lastMarks [op, op'] [b, c] = false := by with_unfolding_all rfl) : TV X (.Compare a [op, op'] [b, c] pos) ρ μ (g i j && g' j i2) μ2 := by
  intro w σ H m s Q q
  refine ⟨_, pt_chain ho ho' (p_ex (e := a)) (p_ex (e := b)) (p_ex (e := c)) hm, ?_⟩
  refine ha w σ H m s _ fun v H1 m1 f1 h1 => ?_
  cases h1
  refine hb w σ H1 m1 (s.fr f1) _ fun v H2 m2 f2 h2 => ?_
  cases h2
  refine ⟨i, j, rfl, rfl, _, rfl, ?_⟩
  cases hk : g i j with
  | true =>
    refine iteT ?_
    refine hc w σ H2 m2 ((s.fr f1).fr f2) _ fun v H3 m3 f3 h3 => ?_
    cases h3
    refine ⟨j, i2, rfl, rfl, _, rfl, ?_⟩
    have := q H3 m3 ((f1.trans f2).trans f3)
    rwa [hk, Bool.true_and] at this
  | false =>
    refine iteF ⟨_, rfl, ?_⟩
    have := q H2 m2 (f1.trans f2)
    rwa [hk, Bool.false_and] at this
theorem bLenS (T : Bt X.mg) (ha : EV X a ρ μ (Ss s) μ1) (h : s.length ≤ sizeLine) (hg : Gl X "len" := by rfl) (hs : starEach [a] X.env = (false, eval a X.env) :: starEach [] X.env := by rfl) : EV X (.Call (.Name "len" p) [a] [] pos) ρ μ (Ii s.length) μ1 := EV.callB call_len_str T.len PySem.boot_len (AV.cons ha AV.nil hs) (cv_lenS h) hg (by decide) (by decide) hs (by rfl)
theorem bLenL (T : Bt X.mg) (ha : EV X a ρ μ (Ls ds) μ1) (hg : Gl X "len" := by rfl) (hs : starEach [a] X.env = (false, eval a X.env) :: starEach [] X.env := by rfl) : EV X (.Call (.Name "len" p) [a] [] pos) ρ μ (Ii ds.length) μ1 := EV.callB call_len_seq T.len PySem.boot_len (AV.cons ha AV.nil hs) cv_lenL hg (by decide) (by decide) hs (by rfl)
theorem bLenT (T : Bt X.mg) (ha : EV X a ρ μ (Tp ds) μ1) (hg : Gl X "len" := by rfl) (hs : starEach [a] X.env = (false, eval a X.env) :: starEach [] X.env := by rfl) : EV X (.Call (.Name "len" p) [a] [] pos) ρ μ (Ii ds.length) μ1 := EV.callB call_len_seq T.len PySem.boot_len (AV.cons ha AV.nil hs) cv_lenT hg (by decide) (by decide) hs (by rfl)
theorem bLenC {n0 : Nat} (T : Bt X.mg) (ha : EV X a ρ μ (.ptr n0) μ1) (hn : μ1[n0]? = some ds) (hg : Gl X "len" := by rfl) (hs : starEach [a] X.env = (false, eval a X.env) :: starEach [] X.env := by rfl) : EV X (.Call (.Name "len" p) [a] [] pos) ρ μ (Ii ds.length) μ1 := EV.callB call_len_seq T.len PySem.boot_len (AV.cons ha AV.nil hs) (cv_lenC hn) hg (by decide) (by decide) hs (by rfl)
theorem bLenScr {ns : List Int} (T : Bt X.mg) (ha : EV X a ρ μ (.scr ns) μ1) (hg : Gl X "len" := by rfl) (hs : starEach [a] X.env = (false, eval a X.env) :: starEach [] X.env := by rfl) : EV X (.Call (.Name "len" p) [a] [] pos) ρ μ (Ii ns.length) μ1 := EV.callB call_len_seq T.len PySem.boot_len (AV.cons ha AV.nil hs) cv_lenScr hg (by decide) (by decide) hs (by rfl)
theorem bStr (T : Bt X.mg) (ha : EV X a ρ μ (Ii i) μ1) (h : i.natAbs.log2 < 1920) (hg : Gl X "str" := by rfl) (hs : starEach [a] X.env = (false, eval a X.env) :: starEach [] X.env := by rfl) : EV X (.Call (.Name "str" p) [a] [] pos) ρ μ (Ss (toString i : String)) μ1 := EV.callTy call_str_int T.str (by decide +kernel) (AV.cons ha AV.nil hs) (cv_str h) hg (by decide) (by decide) hs (by rfl)
theorem bIntI (T : Bt X.mg) (ha : EV X a ρ μ (Ii i) μ1) (hg : Gl X "int" := by rfl) (hs : starEach [a] X.env = (false, eval a X.env) :: starEach [] X.env := by rfl) : EV X (.Call (.Name "int" p) [a] [] pos) ρ μ (Ii i) μ1 := EV.callTy call_int1 T.int (by decide +kernel) (AV.cons ha AV.nil hs) cv_int1 hg (by decide) (by decide) hs (by rfl)
theorem bIntS (T : Bt X.mg) (ha : EV X a ρ μ (Ss s) μ1) (h : PySem.intText? s = some i) (hl : s.length ≤ 640) (hg : Gl X "int" := by rfl) (hs : starEach [a] X.env = (false, eval a X.env) :: starEach [] X.env := by rfl) : EV X (.Call (.Name "int" p) [a] [] pos) ρ μ (Ii i) μ1 := EV.callTy call_int_str T.int (by decide +kernel) (AV.cons ha AV.nil hs) (cv_intS h hl) hg (by decide) (by decide) hs (by rfl)
theorem bAll {bs : List Bool} (T : Bt X.mg) (hc : X.calm = true) (ha : EV X a ρ μ (Ls (bs.map .bool)) μ1) (hg : Gl X "all" := by rfl) (hs : starEach [a] X.env = (false, eval a X.env) :: starEach [] X.env := by rfl) : EV X (.Call (.Name "all" p) [a] [] pos) ρ μ (Bb (bs.all id)) μ1 := EV.callB (cr_all hc) T.all (by decide +kernel) (AV.cons ha AV.nil hs) cv_all hg (by decide) (by decide) hs (by rfl)
theorem bAny {bs : List Bool} (T : Bt X.mg) (hc : X.calm = true) (ha : EV X a ρ μ (Ls (bs.map .bool)) μ1) (hg : Gl X "any" := by rfl) (hs : starEach [a] X.env = (false, eval a X.env) :: starEach [] X.env := by rfl) : EV X (.Call (.Name "any" p) [a] [] pos) ρ μ (Bb (bs.any id)) μ1 := EV.callB (cr_any hc) T.any (by decide +kernel) (AV.cons ha AV.nil hs) cv_any hg (by decide) (by decide) hs (by rfl)
theorem bTupL (T : Bt X.mg) (ha : EV X a ρ μ (Ls ds) μ1) (hg : Gl X "tuple" := by rfl) (hs : starEach [a] X.env = (false, eval a X.env) :: starEach [] X.env := by rfl) : EV X (.Call (.Name "tuple" p) [a] [] pos) ρ μ (Tp ds) μ1 := EV.callTy call_tuple_of T.tuple (by decide +kernel) (AV.cons ha AV.nil hs) cv_tupL hg (by decide) (by decide) hs (by rfl)
theorem bLstT (T : Bt X.mg) (ha : EV X a ρ μ (Tp ds) μ1) (hg : Gl X "list" := by rfl) (hs : starEach [a] X.env = (false, eval a X.env) :: starEach [] X.env := by rfl) : EV X (.Call (.Name "list" p) [a] [] pos) ρ μ (Ls ds) μ1 := EV.callTy call_list_of T.list (by decide +kernel) (AV.cons ha AV.nil hs) cv_lstT hg (by decide) (by decide) hs (by rfl)
theorem bAbs (T : Bt X.mg) (ha : EV X a ρ μ (Ii i) μ1) (hg : Gl X "abs" := by rfl) (hs : starEach [a] X.env = (false, eval a X.env) :: starEach [] X.env := by rfl) : EV X (.Call (.Name "abs" p) [a] [] pos) ρ μ (Ii (if i < 0 then -i else i)) μ1 := EV.callB call_abs T.abs (by decide +kernel) (AV.cons ha AV.nil hs) cv_abs hg (by decide) (by decide) hs (by rfl)
theorem isI (T : Bt X.mg) {T' : String} {n : Str} (ha : EV X a ρ μ (.dat d) μ1) (hk : kitB (tyD d) T' = some k) (hvT : bootBuiltins n = some (.type T')) (hmT : X.mg n = none) (hg : Gl X "isinstance" := by rfl) (hgT : Gl X n := by rfl) (hn : n ≠ "__name__" := by decide)
    (hdb : (n == ("__debug__" : Str)) = false := by decide)
    (he : starEach [a, .Name n p2] X.env = (false, eval a X.env) :: starEach [.Name n p2] X.env := by rfl) (he2 : starEach [.Name n p2] X.env = (false, eval (.Name n p2) X.env) :: starEach [] X.env := by rfl) (hpl : (backTo pos (starEach [.Name n p2] X.env)).any (·.1) = false := by rfl) (hob : isObj d = false := by first | rfl | assumption) :
    EV X (.Call (.Name "isinstance" p) [a, .Name n p2] [] pos) ρ μ (Bb k) μ1 := EV.isi ha hob hk T.isinstance hmT hvT hg hgT hn hdb he he2 hpl
theorem ixT (ha : EV X a ρ μ (Tp ds) μ1) (hb : EV X b ρ μ1 (Ii i) μ2) (h : atI ds i = some d) (hs : PlainIx b := by exact fun _ _ => rfl) : EV X (.Subscript a b pos) ρ μ (.dat d) μ2 := EV.ix ix_tup ha hb (r2_ixT h) hs
theorem ixL (ha : EV X a ρ μ (Ls ds) μ1) (hb : EV X b ρ μ1 (Ii i) μ2) (h : atI ds i = some d) (hs : PlainIx b := by exact fun _ _ => rfl) : EV X (.Subscript a b pos) ρ μ (.dat d) μ2 := EV.ix ix_list ha hb (r2_ixL h) hs
theorem ixC {n0 : Nat} (ha : EV X a ρ μ (.ptr n0) μ1) (hb : EV X b ρ μ1 (Ii i) μ2) (hn : μ2[n0]? = some ds) (h : atI ds i = some d) (hs : PlainIx b := by exact fun _ _ => rfl) : EV X (.Subscript a b pos) ρ μ (.dat d) μ2 := EV.ix ix_list ha hb (r2_ixC hn h) hs
theorem ixS {c0 : Nat} (ha : EV X a ρ μ (Ss s) μ1) (hb : EV X b ρ μ1 (Ii i) μ2) (hl : s.length ≤ sizeLine) (h : atI s.cps.toList i = some c0) (hs : PlainIx b := by exact fun _ _ => rfl) : EV X (.Subscript a b pos) ρ μ (Ss ⟨#[c0]⟩) μ2 := EV.ix ix_str ha hb (r2_ixS hl h) hs
end
end J
namespace J
open PySem PySem.Spec
open PyProof.Rows L2
noncomputable abbrev Con := List Ent → Sto → Ent → Sto → Prop
noncomputable def fn1 (pre : PyData → Prop) (f : PyData → PyData) : Con := fun rs μ r μ' => ∃ d, rs = [.dat d] ∧ pre d ∧ r = .dat (f d) ∧ μ' = μ
structure Df (K : PySem.W.Frag) (mg : Str → Option Value) (n : Str) (st : Stmt) : Prop where
  ex : ∃ f fd, Fun K n n st f fd ∧ mg n = some (.ref f)
section
variable {w : World} {P : Program} {K : PySem.W.Frag} {base : Heap} {mg : Str → Option Value}
theorem Df.calN {x : Str} {st : Stmt} {N ps : List Str} {k : Nat} {C : Con} (D : Df K mg x st) (Sc : FnScope N ps (defScope st))
    (hb : ∀ (kV doc pm : Value) (an : Option Addr) (cdv ct : Value) (us : List Value), us.length = ps.length → bindArgs (PySem.W.fnOf x x (defArgs st) (defBody st) (defScope st) .none kV doc pm an cdv ct) ⟨us, []⟩ = pure (ps.zip us))
    (hN : ps.length ≤ N.length) (hlen : ∀ rs μ r μ', C rs μ r μ' → μ'.length = μ.length)
    (body : ∀ (f : Addr) (cdv : Value) (A : Around) (outer : List Env) (s : Shared) (H : Hp) (E : XK), Room k (A.deeper (envOfC x (defScope st) s.heap.objs.size f cdv)) → ∀ rs μ r μ', C rs μ r μ' →
      ST (cxOf CX0 P w K mg base N x (defScope st) f cdv A outer s H E).nox W0 μ.length (defBody st) (rs.map some ++ List.replicate (N.length - rs.length) none) μ (Post r μ')) : Cal P w K mg base x (k + 1) ps C := by
  obtain ⟨f, fd, F, hm⟩ := D.ex
  exact Cal.mk' F hm Sc (F.binds hb) hN hlen fun cdv A outer s H E hr rs μ r μ' _ hC => body f cdv A outer s H E hr rs μ r μ' hC
theorem Df.cal {x : Str} {st : Stmt} {N ps : List Str} {k : Nat} {C : Con} (D : Df K mg x st) (Sc : FnScope N ps (defScope st))
    (hb : ∀ (kV doc pm : Value) (an : Option Addr) (cdv ct : Value) (us : List Value), us.length = ps.length → bindArgs (PySem.W.fnOf x x (defArgs st) (defBody st) (defScope st) .none kV doc pm an cdv ct) ⟨us, []⟩ = pure (ps.zip us))
    (hN : ps.length ≤ N.length) (hlen : ∀ rs μ r μ', C rs μ r μ' → μ'.length = μ.length)
    (body : ∀ (f : Addr) (cdv : Value) (A : Around) (outer : List Env) (s : Shared) (H : Hp) (E : XK), Room k (A.deeper (envOfC x (defScope st) s.heap.objs.size f cdv)) → ∀ rs μ r μ', C rs μ r μ' →
      ST (cxOf CX0 P w K mg base N x (defScope st) f cdv A outer s H E).nox W0 μ.length (defBody st) (rs.map some ++ List.replicate (N.length - rs.length) none) μ (PostR r μ')) : Cal P w K mg base x (k + 1) ps C :=
  D.calN Sc hb hN hlen fun f cdv A outer s H E hr rs μ r μ' hC => (body f cdv A outer s H E hr rs μ r μ' hC).mono fun o ho => by
    cases o with
    | ret r' ν => exact ho
    | nx ρ ν => exact False.elim ho
    | brk ρ ν => exact False.elim ho
    | ct ρ ν => exact False.elim ho
    | rse ρ ν C fs => exact False.elim ho
end
section
variable {X : Cx} {ρ : REnv} {μ μ1 μ2 μ3 : Sto} {n : Str} {i : Int} {s : Str} {pos : Pos}
theorem gI (h : ∃ t, X.mg n = some (.int i t)) (hg : Gl X n := by rfl) (hd : (n == ("__debug__" : Str)) = false := by decide) : EV X (.Name n pos) ρ μ (Ii i) μ := by
  obtain ⟨t, h⟩ := h
  exact gl (v := .int i) h ⟨t, rfl⟩ (fun _ => .int i) hg hd
theorem gS (h : ∃ t, X.mg n = some (.str s t)) (hg : Gl X n := by rfl) (hd : (n == ("__debug__" : Str)) = false := by decide) : EV X (.Name n pos) ρ μ (Ss s) μ := by
  obtain ⟨t, h⟩ := h
  exact gl (v := .str s) h ⟨t, rfl⟩ (fun _ => .str s) hg hd
end
section
variable {X : Cx} {W : WX} {ρ : REnv} {μ μ1 μ2 : Sto} {a b c e : Expr} {es rest : List Expr} {pos : Pos} {k l : Bool} {z : Ent} {n : Nat} {sts body orelse : List Stmt} {P : Out → Prop}
theorem WV.andP (h : TV X a ρ μ k μ) (h2 : WV X (.BoolOp .And (b :: es) pos) ρ μ l μ) : WV X (.BoolOp .And (a :: b :: es) pos) ρ μ (k && l) μ := by
  cases k with
  | true => exact WV.and h (fun z => by cases z) fun _ => by simpa using h2
  | false => exact WV.and h (fun _ => ⟨rfl, rfl⟩) fun z => by cases z
theorem WV.orP (h : TV X a ρ μ k μ) (h2 : WV X (.BoolOp .Or (b :: es) pos) ρ μ l μ) : WV X (.BoolOp .Or (a :: b :: es) pos) ρ μ (k || l) μ := by
  cases k with
  | false => exact WV.or h (fun z => by cases z) fun _ => by simpa using h2
  | true => exact WV.or h (fun _ => ⟨rfl, rfl⟩) fun z => by cases z
theorem EV.andD (h : EV X a ρ μ (Bb k) μ) (h2 : k = true → EV X (.BoolOp .And (b :: es) pos) ρ μ (Bb l) μ) : EV X (.BoolOp .And (a :: b :: es) pos) ρ μ (Bb (k && l)) μ := by
  cases k with
  | true => exact EV.and h (fun z => by cases z) fun _ => by simpa using h2 rfl
  | false => exact EV.and h (fun _ => ⟨rfl, rfl⟩) fun z => by cases z
theorem ST.ifR (h : TV X c ρ μ k μ1) (h1 : k = true → ST X W n body ρ μ1 P) (h2 : k = false → ST X W n sts ρ μ1 P) (hP : ∀ ρ μ, P (.nx ρ μ) → False := by exact fun _ _ z => z) : ST X W n (.If c body [] pos :: sts) ρ μ P := by
  refine ST.iff h (fun hk => (h1 hk).mono fun o ho => ?_) fun hk => ST.nil (h2 hk)
  cases o with
  | nx ρ' μ' => exact (hP _ _ ho).elim
  | ret r m => exact ho
  | brk ρ' m => exact ho
  | ct ρ' m => exact ho
  | rse ρ' m C fs => exact ho
theorem ST.ifNo (h : TV X c ρ μ k μ1) (hk : k = false) (h2 : ST X W n sts ρ μ1 P) : ST X W n (.If c body [] pos :: sts) ρ μ P := ST.iff h (fun z => by rw [hk] at z; cases z) fun _ => ST.nil h2
theorem ST.ifYes (h : TV X c ρ μ k μ1) (hk : k = true) (h1 : ST X W n body ρ μ1 P) (hP : ∀ ρ μ, P (.nx ρ μ) → False := by exact fun _ _ z => z) : ST X W n (.If c body [] pos :: sts) ρ μ P := ST.ifR h (fun _ => h1) (fun z => by rw [hk] at z; cases z) hP
theorem ST.retP {r : Ent} {r' : Ent} {ν : Sto} (h : EV X e ρ μ r' ν) (e1 : frz n ν r' = r) (e2 : ν.take n = μ2 := by simp) : ST X W n (.Return (some e) pos :: sts) ρ μ (PostR r μ2) := ST.ret h ⟨e1, e2⟩
end
noncomputable def isIntL : PyData → Bool
  | .bool _ => true
  | .int _ => true
  | _ => false
theorem kit_int_NoneType : kitB "NoneType" "int" = some false := by decide +kernel
theorem kit_int_bool : kitB "bool" "int" = some true := by decide +kernel
theorem kit_int_int : kitB "int" "int" = some true := by decide +kernel
theorem kit_int_str : kitB "str" "int" = some false := by decide +kernel
theorem kit_int_list : kitB "list" "int" = some false := by decide +kernel
theorem kit_int_tuple : kitB "tuple" "int" = some false := by decide +kernel
theorem kit_int_dict : kitB "dict" "int" = some false := by decide +kernel
theorem kit_int (d : PyData) : kitB (tyD d) "int" = some (isIntL d) := by
  cases d
  · exact kit_int_NoneType
  · exact kit_int_bool
  · exact kit_int_int
  · exact kit_int_str
  · exact kit_int_list
  · exact kit_int_tuple
  · exact kit_int_dict
noncomputable def isBoolL : PyData → Bool
  | .bool _ => true
  | _ => false
theorem kit_bool_NoneType : kitB "NoneType" "bool" = some false := by decide +kernel
theorem kit_bool_bool : kitB "bool" "bool" = some true := by decide +kernel
theorem kit_bool_int : kitB "int" "bool" = some false := by decide +kernel
theorem kit_bool_str : kitB "str" "bool" = some false := by decide +kernel
theorem kit_bool_list : kitB "list" "bool" = some false := by decide +kernel
theorem kit_bool_tuple : kitB "tuple" "bool" = some false := by decide +kernel
theorem kit_bool_dict : kitB "dict" "bool" = some false := by decide +kernel
theorem kit_bool (d : PyData) : kitB (tyD d) "bool" = some (isBoolL d) := by
  cases d
  · exact kit_bool_NoneType
  · exact kit_bool_bool
  · exact kit_bool_int
  · exact kit_bool_str
  · exact kit_bool_list
  · exact kit_bool_tuple
  · exact kit_bool_dict
noncomputable def isStrL : PyData → Bool
  | .str _ => true
  | _ => false
theorem kit_str_NoneType : kitB "NoneType" "str" = some false := by decide +kernel
theorem kit_str_bool : kitB "bool" "str" = some false := by decide +kernel
theorem kit_str_int : kitB "int" "str" = some false := by decide +kernel
theorem kit_str_str : kitB "str" "str" = some true := by decide +kernel
theorem kit_str_list : kitB "list" "str" = some false := by decide +kernel
theorem kit_str_tuple : kitB "tuple" "str" = some false := by decide +kernel
theorem kit_str_dict : kitB "dict" "str" = some false := by decide +kernel
theorem kit_str (d : PyData) : kitB (tyD d) "str" = some (isStrL d) := by
  cases d
  · exact kit_str_NoneType
  · exact kit_str_bool
  · exact kit_str_int
  · exact kit_str_str
  · exact kit_str_list
  · exact kit_str_tuple
  · exact kit_str_dict
noncomputable def isTupleL : PyData → Bool
  | .tuple _ => true
  | _ => false
theorem kit_tuple_NoneType : kitB "NoneType" "tuple" = some false := by decide +kernel
theorem kit_tuple_bool : kitB "bool" "tuple" = some false := by decide +kernel
theorem kit_tuple_int : kitB "int" "tuple" = some false := by decide +kernel
theorem kit_tuple_str : kitB "str" "tuple" = some false := by decide +kernel
theorem kit_tuple_list : kitB "list" "tuple" = some false := by decide +kernel
theorem kit_tuple_tuple : kitB "tuple" "tuple" = some true := by decide +kernel
theorem kit_tuple_dict : kitB "dict" "tuple" = some false := by decide +kernel
theorem kit_tuple (d : PyData) : kitB (tyD d) "tuple" = some (isTupleL d) := by
  cases d
  · exact kit_tuple_NoneType
  · exact kit_tuple_bool
  · exact kit_tuple_int
  · exact kit_tuple_str
  · exact kit_tuple_list
  · exact kit_tuple_tuple
  · exact kit_tuple_dict
section
variable {X : Cx} {W : WX} {ρ : REnv} {μ μ1 μ2 : Sto} {a b c e : Expr} {es rest : List Expr} {pos : Pos} {k l : Bool} {z : Ent} {n : Nat} {sts body orelse : List Stmt} {P : Out → Prop}
theorem WV.orT (h : TV X a ρ μ k μ1) (hk : k = true := by rfl) : WV X (.BoolOp .Or (a :: b :: es) pos) ρ μ true μ1 := WV.or h (fun _ => ⟨rfl, rfl⟩) fun z => by rw [hk] at z; cases z
theorem WV.orF (h : TV X a ρ μ k μ1) (h2 : WV X (.BoolOp .Or (b :: es) pos) ρ μ1 l μ2) (hk : k = false := by rfl) : WV X (.BoolOp .Or (a :: b :: es) pos) ρ μ l μ2 := WV.or h (fun z => by rw [hk] at z; cases z) fun _ => h2
theorem WV.andF (h : TV X a ρ μ k μ1) (hk : k = false := by rfl) : WV X (.BoolOp .And (a :: b :: es) pos) ρ μ false μ1 := WV.and h (fun _ => ⟨rfl, rfl⟩) fun z => by rw [hk] at z; cases z
theorem WV.andT (h : TV X a ρ μ k μ1) (h2 : WV X (.BoolOp .And (b :: es) pos) ρ μ1 l μ2) (hk : k = true := by rfl) : WV X (.BoolOp .And (a :: b :: es) pos) ρ μ l μ2 := WV.and h (fun z => by rw [hk] at z; cases z) fun _ => h2
theorem EV.andF (h : EV X a ρ μ (Bb k) μ1) (hk : k = false := by rfl) : EV X (.BoolOp .And (a :: b :: es) pos) ρ μ (Bb false) μ1 := EV.and h (fun _ => ⟨rfl, rfl⟩) fun z => by rw [hk] at z; cases z
theorem EV.andT (h : EV X a ρ μ (Bb k) μ1) (h2 : EV X (.BoolOp .And (b :: es) pos) ρ μ1 z μ2) (hk : k = true := by rfl) : EV X (.BoolOp .And (a :: b :: es) pos) ρ μ z μ2 := EV.and h (fun z => by rw [hk] at z; cases z) fun _ => h2
end
theorem sz {n : Nat} (h : n ≤ 1000000) : n ≤ sizeLine := Nat.le_trans h (by decide)
theorem sz2 {n : Nat} (h : n ≤ 1000000) : n + 2 ≤ sizeLine := Nat.le_trans (Nat.add_le_add_right h 2) (by decide)
theorem log_small {i : Int} (h : i.natAbs < 2 ^ 1000) : i.natAbs.log2 < 1920 := by
  by_cases hz : i.natAbs = 0
  · rw [hz]; decide
  · exact Nat.lt_of_lt_of_le ((Nat.log2_lt hz).mpr h) (by decide)
theorem at_nat {α : Type} {xs : List α} {i : Nat} {x : α} (h : xs[i]? = some x) : atI xs (i : Int) = some x := by
  have hl := (List.getElem?_eq_some_iff.mp h).1
  unfold atI ixN
  rw [if_pos (by omega), if_pos (by omega)]
  simpa using h
noncomputable def sgn1 (f : Nat → Bool) : PyData → PyData
  | .str s => .bool (f (s.cps.toList.headD 0))
  | d => d
theorem sgn1_map (f : Nat → Bool) (s : Str) : (strD s).map (sgn1 f) = (s.cps.toList.map f).map .bool := by
  unfold strD
  rw [List.map_map, List.map_map]
  exact List.map_congr_left fun c _ => rfl
end J
namespace M
open PySem J
noncomputable def isInteger : PyData → Bool
  | .int _ => true
  | _ => false
noncomputable abbrev letters : Str := "abcdefghijklmnopqrstuvwxyz"
noncomputable abbrev digits : Str := "0123456789"
noncomputable def signOk (c : Nat) : Bool := decide (c ∈ (letters ++ digits).cps.toList)
noncomputable def nameOk (s : Str) : Bool := (decide (1 ≤ (s.length : Int)) && decide ((s.length : Int) ≤ 8)) && (match s.cps.toList with
  | [] => false
  | c :: r => decide (c ∈ letters.cps.toList) && (c :: r).all signOk)
noncomputable def isName : PyData → Bool
  | .str s => nameOk s
  | _ => false
noncomputable def lasts : List PyData := [.str "last 1", .str "last 2", .str "last 3", .str "last 4"]
noncomputable def isGoal : PyData → Bool
  | .str s => inD (.str s) ([.str "all", .str "before"] ++ lasts)
  | _ => false
noncomputable def strI (i : Int) : Str := (toString i : String)
noncomputable def digList (lo hi : Int) : List PyData := (rngD lo (hi + 1 - lo).toNat).map fun
  | .int i => .str (strI i)
  | d => d
noncomputable def dval (s : Str) : Int := match s.cps.toList with
  | [c] => (c : Int) - 48
  | _ => 0
noncomputable def readDigit (s : Str) (lo hi : Int) : PyData := if inD (.str s) (digList lo hi) then .int (dval s) else .none
theorem dig_in {s : Str} {lo hi : Int} (h0 : 0 ≤ lo) (h9 : hi ≤ 9) (h : inD (.str s) (digList lo hi) = true) : ∃ i : Nat, i ≤ 9 ∧ lo ≤ i ∧ (i : Int) ≤ hi ∧ s = strI i := by
  unfold inD digList at h
  rw [List.any_map, List.any_eq_true] at h
  obtain ⟨d, hd, he⟩ := h
  unfold rngD at hd
  obtain ⟨k, hk, rfl⟩ := List.mem_map.mp hd
  have hk' := List.mem_range.mp hk
  have e : (strI (lo + (k : Int)) == s) = true := he
  have e' : strI (lo + (k : Int)) = s := by simpa using e
  refine ⟨(lo + (k : Int)).toNat, by omega, by omega, by omega, ?_⟩
  rw [← e']
  congr 1
  omega
theorem dig_text : ∀ i : Nat, i ≤ 9 → PySem.intText? (strI i) = some (i : Int) ∧ dval (strI i) = i ∧ (strI i).length = 1 := by
  have h : ∀ i : Fin 10, PySem.intText? (strI (i.val : Int)) = some (i.val : Int) ∧ dval (strI (i.val : Int)) = (i.val : Int) ∧ (strI (i.val : Int)).length = 1 := by decide +kernel
  exact fun i hi => h ⟨i, by omega⟩
noncomputable def ofS : Str := "of"
noncomputable def readClass (ws : List Str) : PyData := match ws with
  | [a, o, b] => if o == ofS then (match readDigit b 1 3 with
    | .int d => (match readDigit a 0 (d - 1) with
      | .int e => .tuple [.int e, .int d]
      | _ => .none)
    | _ => .none) else .none
  | _ => .none
noncomputable def readWay (ws : List Str) : PyData := match ws with
  | [a, b] => if inD (.str a) [.str "left", .str "right"] then (match readDigit b 1 4 with
    | .int n => if a == "right" then .int n else .int (-n)
    | _ => .none) else .none
  | _ => .none
noncomputable def putClause (deed : Str) (place more : PyData) : PyData := match place with
  | .tuple [e, d] => if isNone more then .none else .tuple [.str deed, e, d, more]
  | _ => .none
end M
namespace J
open PySem PySem.Spec
open PyProof.Rows L2
theorem yes_if {σ : L2.St} {H : Hp} {A B : Hp → Prop} (h : A H) : tYes σ H (fun b H => if b = true then A H else B H) := by
  show (if true = true then A H else B H)
  rw [if_pos rfl]
  exact h
noncomputable def iC (X : Cx) (scope : Scope) (tg it : Expr) : TI := fun σ H R => ∀ s H0 C cl fp, IX (blkX X scope s H0 C cl fp) tg it σ H R
section
variable {X : Cx} {ρ : REnv} {μ μ1 : Sto} {tg iter tg1 iter1 elt : Expr} {pos : Pos} {ds : List PyData}
theorem pi_C {scope : Scope} (s : Shared) (H : Hp) (C : Addr) (cl : List (Str × Addr)) (fp : List Addr) : PI (X.blk s H scope (compEnvC scope cl C X.env) fp) tg1 iter1 (iC X scope tg1 iter1) :=
  ⟨fun pins s1 σ H1 Q I h => (p_ix (X := blkX X scope s H C cl fp) (tg := tg1) (e := iter1)).run pins s1 σ H1 Q I (h s H C cl fp)⟩
theorem wipe_wipe (vs : List Nat) (σ : L2.St) : wipe (wipe σ vs) vs = wipe σ vs := by
  have aux : ∀ (us : List Nat) (σ : L2.St), (∀ u ∈ us, u ∈ vs) → wipe (wipe σ us) vs = wipe σ vs := by
    intro us
    induction us with
    | nil => intro σ _; rfl
    | cons u us ih =>
      intro σ hu
      show wipe ((wipe σ us).set u none) vs = wipe σ vs
      rw [wipe_set _ _ _ _ (hu u List.mem_cons_self)]
      exact ih σ fun z hz => hu z (List.mem_cons_of_mem _ hz)
  exact aux vs σ fun u h => h
structure Mid (K : PySem.W.Frag) (w : Wd) (D : Addr) (H1 : Hp) (μ : Sto) (acc : List PyData) (H : Hp) : Prop where
  mem : Mem K H (wk' w D) μ
  keep : ∀ b o, H1 b = some o → b ∉ w.α → Nt o → H b = some o
  at_ : ∃ vs, H D = some (.lst vs) ∧ DqAll (dl H (wk' w D).all) vs acc
theorem Mid.fr {K : PySem.W.Frag} {w : Wd} {D : Addr} {H1 H H' : Hp} {acc : List PyData} (h : Mid K w D H1 μ acc H) (f : Fr w.α H H') (m : Mem K H' (wk' w D) μ) : Mid K w D H1 μ acc H' := by
  obtain ⟨vs, e, hd⟩ := h.at_
  exact ⟨m, fun b o e hb nt => f b o (h.keep b o e hb nt) hb nt, vs, f D _ e (h.mem.out D List.mem_cons_self) (fun q z => by cases z), dqAll_mono (Fr.all (w := wk' w D) f) _ _ hd⟩
theorem LCV2.evf {scope : Scope} {own : List (Str × Nat)} {vs1 : List Nat} (F : PyData → List PyData) (f : PyData → PyData → PyData) (hi : IV X tg iter ρ μ ds μ1) (hc : X.calm = true) (hN : X.N.Nodup) (ok : BlkOk X.N X.env.scope scope own) (hv : ∀ i ∈ vs1, i ∈ own.map (·.2))
    (hs : ∀ d ∈ ds, ∃ ρ', (∀ s H C cl fp, GV (blkX X scope s H C cl fp) tg d (wipeE ρ (own.map (·.2))) ρ' (own.map (·.2))) ∧ (∀ s H C cl fp, IV (blkX X scope s H C cl fp) tg1 iter1 ρ' μ1 (F d) μ1) ∧
      ∀ e ∈ F d, ∃ ρ2, (∀ s H C cl fp, GV (blkX X scope s H C cl fp) tg1 e (wipeE ρ' vs1) ρ2 vs1) ∧ ∀ s H C cl fp, EV (blkX X scope s H C cl fp) elt ρ2 μ1 (.dat (f d e)) μ1)
    (hl : ∀ n, ((ds.take n).flatMap fun d => (F d).map (f d)).length ≤ 100000) (hl2 : ∀ n, ∀ d ∈ ds, ∀ m, ((ds.take n).flatMap fun d => (F d).map (f d)).length + m ≤ 100000 ∨ (F d).length < m)
    (hst : ∀ x, foldedSetIterable iter X.env x = pure x := by intro _; rfl) (hst1 : ∀ env x, foldedSetIterable iter1 env x = pure x := by intro _ _; rfl) :
    EVF X (.ListComp elt [⟨tg, iter, [], 0⟩, ⟨tg1, iter1, [], 0⟩] scope pos) ρ μ (ds.flatMap fun d => (F d).map (f d)) μ1 := by
  intro w σ H m s Q q
  refine ⟨_, pe_lc2 hc hN (p_ix (tg := tg) (e := iter)) ok hv pg_C (fun _ _ _ _ _ => pts_nil) pi_C pg_C (fun _ _ _ _ _ => pts_nil) pe_C hst hst1, ?_⟩
  refine hi w σ H m s _ fun J H1 m1 f1 wk => ?_
  intro D hD
  have hD0 : Nw H D := Nw.back f1 (Nw.of hD) (m1.fresh hD)
  refine ⟨fun i n H2 => n = ds.length - i ∧ i ≤ ds.length ∧ Mid X.K w D H1 μ1 ((ds.take i).flatMap fun d => (F d).map (f d)) H2, ⟨ds.length, by simp, Nat.zero_le _, m1.keep hD, fun b o e hb _ => ?_, [], upd_same, by simpa using DqAll.nil⟩, ?_⟩
  · rw [upd_ne (ne_of_none e hD)]
    exact e
  rintro i n H2 ⟨rfl, hi', M2⟩
  obtain ⟨vs, e2, hd2⟩ := M2.at_
  have m2 := M2.mem
  have g12 : Same (dl H1 w.all) (dl H2 (wk' w D).all) := keep_out (K := X.K) hD M2.keep ⟨_, e2⟩
  have g12' : Same (dl H1 w.all) H2 := g12.trans dl_same
  by_cases hlt : i < ds.length
  · obtain ⟨d, hdi⟩ : ∃ d, ds[i]? = some d := ⟨ds[i], by simp [hlt]⟩
    have hdm : d ∈ ds := List.mem_iff_getElem?.mpr ⟨i, hdi⟩
    have tk : (ds.take (i + 1)).flatMap (fun d => (F d).map (f d)) = (ds.take i).flatMap (fun d => (F d).map (f d)) ++ (F d).map (f d) := by
      rw [List.take_succ, hdi]
      simp
    obtain ⟨go, yl⟩ := wk.go H2 g12' i d hdi
    refine .inr ⟨go, fun H' => Mid X.K w D H1 μ1 ((ds.take (i + 1)).flatMap fun d => (F d).map (f d)) H', fun H' h => ⟨ds.length - (i + 1), by omega, rfl, hlt, h⟩, fun x H3 y3 => ?_⟩
    obtain ⟨s23, dx⟩ := yl x H3 y3
    have dx3 : Dq (dl H3 (wk' w D).all) x d := dx _ g12 fun b hb => (all_wk'.mp hb).elim (fun z => z ▸ ⟨_, e2⟩) fun hb => (List.mem_append.mp hb).elim (fun z => (m2.there z).elim fun vs e => ⟨_, e⟩) fun z => m2.ex1 (List.mem_cons_of_mem _ z)
    have M3 : Mid X.K w D H1 μ1 _ H3 := M2.fr (Fr.of_same s23) (m2.same s23)
    have sl3 : Sl X.K H3 (wk' w D) (wipe σ (own.map (·.2))) (wipeE ρ (own.map (·.2))) := (sl_wipe ((s.fr f1).same2 g12) _).fr (w := wk' w D) (Fr.of_same s23)
    obtain ⟨ρ', hgv, hiv, hel⟩ := hs d hdm
    intro s' H0 C cl fp
    refine hgv s' H0 C cl fp _ _ H3 μ1 x M3.mem sl3 dx3 _ fun σ4 sl4 ew => ⟨ew.trans (wipe_wipe _ σ), ?_⟩
    refine yes_if ?_
    intro s' H0 C cl fp
    refine hiv s' H0 C cl fp (wk' w D) σ4 H3 M3.mem sl4 _ fun J1 H4 m4 f34 wk1 => ?_
    have M4 : Mid X.K w D H1 μ1 _ H4 := M3.fr f34 m4
    have sl44 : Sl X.K H4 (wk' w D) σ4 ρ' := sl4.fr f34
    refine ⟨fun j k H5 => k = (F d).length - j ∧ j ≤ (F d).length ∧ Mid X.K w D H1 μ1 ((ds.take i).flatMap (fun d => (F d).map (f d)) ++ ((F d).take j).map (f d)) H5 ∧ Fr w.α H4 (fun b => if b = D then H4 D else H5 b), ⟨(F d).length, by simp, Nat.zero_le _, by simpa using M4, fun b o e hb _ => ?_⟩, ?_⟩
    · by_cases z : b = D
      · subst z; simpa using e
      · simpa [z] using e
    rintro j k H5 ⟨rfl, hj', M5, f45⟩
    obtain ⟨us, e5, hd5⟩ := M5.at_
    have m5 := M5.mem
    have g45 : Same (dl H4 (wk' w D).all) (dl H5 (wk' w D).all) := fun b o hb => by
      have nt := dl_nt hb
      obtain ⟨n1, e1⟩ := dl_some hb
      have nD : b ≠ D := fun z => n1 (all_wk'.mpr (.inl z))
      have := f45 b o e1 (fun z => n1 (List.mem_append_left _ z)) nt
      have h2 : (if b = D then H4 D else H5 b) = some o := this
      rw [if_neg nD] at h2
      exact dl_of n1 h2 nt
    have sl5 : Sl X.K H5 (wk' w D) σ4 ρ' := sl44.same g45
    by_cases hjt : j < (F d).length
    · obtain ⟨e, hej⟩ : ∃ e, (F d)[j]? = some e := ⟨(F d)[j], by simp [hjt]⟩
      have hem : e ∈ F d := List.mem_iff_getElem?.mpr ⟨j, hej⟩
      obtain ⟨go1, yl1⟩ := wk1.go H5 (g45.trans dl_same) j e hej
      refine .inr ⟨go1, fun H' => Mid X.K w D H1 μ1 ((ds.take i).flatMap (fun d => (F d).map (f d)) ++ ((F d).take (j + 1)).map (f d)) H' ∧ Fr w.α H4 (fun b => if b = D then H4 D else H' b), fun H' h => ⟨(F d).length - (j + 1), by omega, rfl, hjt, h⟩, fun x1 H6 y6 => ?_⟩
      obtain ⟨s56, dx1⟩ := yl1 x1 H6 y6
      have dx6 : Dq (dl H6 (wk' w D).all) x1 e := dx1 _ g45 fun b hb => (all_wk'.mp hb).elim (fun z => z ▸ ⟨_, e5⟩) fun hb => (List.mem_append.mp hb).elim (fun z => (m5.there z).elim fun vs e => ⟨_, e⟩) fun z => m5.ex1 (List.mem_cons_of_mem _ z)
      have M6 : Mid X.K w D H1 μ1 _ H6 := M5.fr (Fr.of_same s56) (m5.same s56)
      have sl6 : Sl X.K H6 (wk' w D) (wipe σ4 vs1) (wipeE ρ' vs1) := (sl_wipe sl5 _).fr (w := wk' w D) (Fr.of_same s56)
      obtain ⟨ρ2, hg2, hev⟩ := hel e hem
      intro s' H0 C cl fp
      refine hg2 s' H0 C cl fp _ _ H6 μ1 x1 M6.mem sl6 dx6 _ fun σ7 sl7 ew1 => ⟨ew1.trans (wipe_wipe _ σ4), ?_⟩
      refine yes_if ?_
      intro s' H0 C cl fp
      refine hev s' H0 C cl fp (wk' w D) σ7 H6 M6.mem sl7 _ fun v H8 m8 f68 hv => ?_
      have M8 : Mid X.K w D H1 μ1 _ H8 := M6.fr f68 m8
      obtain ⟨us8, e8, hd8⟩ := M8.at_
      refine ⟨us8, e8, ?_, ⟨m8.outs, fun b o e hb nt => ?_, us8 ++ [v], upd_same, ?_⟩, fun b o e hb nt => ?_⟩
      · rw [dqAll_len hd8, List.length_append, List.length_map, List.length_take]
        rcases hl2 i d hdm (j + 1) with z | z
        · have : min j (F d).length = j := by omega
          rw [this]
          exact Nat.lt_of_lt_of_le (Nat.lt_of_succ_le z) (by decide)
        · omega
      · rw [upd_ne (ne_of_none e hD)]
        exact M8.keep b o e hb nt
      · have t2 : ((F d).take (j + 1)).map (f d) = ((F d).take j).map (f d) ++ [f d e] := by
          rw [List.take_succ, hej]
          simp
        rw [t2, ← List.append_assoc]
        exact dqAll_append (dqAll_mono same_outs _ _ hd8) (.cons (dq_mono same_outs _ _ hv) .nil)
      · by_cases z : b = D
        · subst z; simpa using e
        · simp only [z, if_false, upd_ne z]
          have := f45 b o e hb nt
          have h2 : (if b = D then H4 D else H5 b) = some o := this
          rw [if_neg z] at h2
          exact f68 b o (s56 _ _ h2) hb nt
    · have ej : j = (F d).length := by omega
      subst ej
      refine .inl ⟨wk1.stop H5 (g45.trans dl_same), ?_⟩
      rw [List.take_length] at M5
      show Mid X.K w D H1 μ1 _ H5
      rw [tk]
      exact M5
  · have ei : i = ds.length := by omega
    subst ei
    rw [List.take_length] at M2 hd2
    exact .inl ⟨wk.stop H2 g12', q D H2 vs m2 (f1.trans M2.keep) hD0 e2 hd2⟩
end
end J
namespace PySem
open Sem (wp)
open AutoSeq1 (wpAny_loadPart')
theorem jEnumNew (l : Addr) (items : Array Value) (n : Nat) (oc : Value) (dct : Option Addr) (sl : Array (Option Value)) :
    Meets (Builtin.«enumerate.__new__» ⟨[.type "enumerate", .ref l], []⟩) fun _ R s =>
      s.heap.get? l = some { cls := .type "tuple", dict := dct, data := .seq items n, slots := sl } ∧
      R (.ok (.ret (.ref (s.heap.push { cls := .type "tuple_iterator", data := .fields #[.ref l, .int 0 0] }).objs.size)))
        { s with heap := (s.heap.push { cls := .type "tuple_iterator", data := .fields #[.ref l, .int 0 0] }).push ({ cls := .type "enumerate", data := .fields #[.none, .bool false, .ref s.heap.objs.size, rawInt 0, .none, .none] } : Obj) } :=
  .of_wp fun prog w A R s hh => by
    obtain ⟨hp, gs, dr, tt, os⟩ := s
    obtain ⟨hl, hR⟩ := hh
    have hs1 := sub_enumerate
    have hT : Heap.IsTuple (Shared.heap ⟨hp, gs, dr, tt, os⟩) l items := ⟨_, hl, rfl, n, rfl⟩
    wp_walk using wpAny_loadPart' hl
    refine wpAny_stack_any fun _ => wpAny_pure ?_
    split
    · rename_i c _ _ _ _ _
      cases (c == Value.type "enumerate") <;> (wp_walk using wpAny_loadPart' hl, wpAny_pyIter_tuple hT; exact ⟨_, rfl, hR⟩)
    · wp_walk using wpAny_loadPart' hl, wpAny_pyIter_tuple hT
      exact ⟨_, rfl, hR⟩
section
variable {prog : Program} {w : World} {A : Around} {E : Value → Shared → Prop} {s : Shared}
theorem jEnumCall {l : Addr} {items : Array Value} {Q : Value → Shared → Prop} (hT : s.heap.IsTuple l items)
    (hq : ∀ g, IsEnum g (s.heap.objs.size + 1) s.heap.objs.size 0 .none → g.IsTupleIter s.heap.objs.size l 0 → (∀ b o, s.heap.get? b = some o → g.get? b = some o) → Q (.ref (s.heap.objs.size + 1)) { s with heap := g }) :
    wpAny (model prog w) A (call (.type "enumerate") [.ref l]) Q E s := by
  obtain ⟨⟨c, dct, dt, sl⟩, hl, hc, n, hd⟩ := hT
  obtain rfl : c = .type "tuple" := hc
  obtain rfl : dt = .seq items n := hd
  refine callType_new F.called_enumerate (by decide) (F.typeCall_enumerate_1 _) (F.newCall_enumerate_1 _) (fun ob => F.args_object_init_2 ob _) F.entry_enumerate_new (jEnumNew l items n .none dct sl) ⟨hl, ?_⟩
  have hz : (s.heap.push ({ cls := .type "tuple_iterator", data := .fields #[.ref l, .int 0 0] } : Obj)).objs.size = s.heap.objs.size + 1 := Heap.size_push ..
  show _ ∧ _
  rw [hz]
  have he := Heap.get?_push_size (s.heap.push ({ cls := .type "tuple_iterator", data := .fields #[.ref l, .int 0 0] } : Obj)) (o := { cls := .type "enumerate", data := .fields #[.none, .bool false, .ref s.heap.objs.size, rawInt 0, .none, .none] }) rfl
  rw [hz] at he
  exact ⟨⟨_, he, rfl⟩, hq _ he ⟨_, Heap.get?_push_of_some _ (Heap.get?_push_size _ rfl), rfl, rfl⟩ fun b o x => Heap.get?_push_of_some _ (Heap.get?_push_of_some _ x)⟩
end
end PySem
namespace J
open PySem PySem.Spec
open PyProof.Rows L2
noncomputable def ItT (K : PySem.W.Frag) (a : Addr) : It :=
  ⟨fun i H => ∃ (ys : List V) (y : V), SqT K H a ys ∧ ys[i]? = some y, fun i H v H' => ∃ T y, v = .ref T ∧ H T = none ∧ H' = upd H T (.tup [.int (i : Nat), y]) ∧ ∀ ys, SqT K H a ys → ys[i]? = some y, fun i H => ∃ ys : List V, SqT K H a ys ∧ ys.length = i⟩
theorem turn_enT {P : Program} {w : World} {K : PySem.W.Frag} {elts : List Expr} {kk : Nat} {tpos : Pos} (a e it : Addr) :
    Turn P w K (.Tuple elts kk tpos) (ItT K a) [e, it] e (fun i h => (∃ old, IsEnum h e it ((i : Nat) : Int) old) ∧ h.IsTupleIter it a i ∧ e ≠ it ∧ a ≠ it ∧ e ≠ a) := by
  refine ⟨by simp, fun i h st b hb => ?_, fun i h h' st k => ?_, ?_, ?_, fun A i s Q E st h => ?_⟩
  · obtain ⟨⟨old, he⟩, ⟨o, ho, hc, hd⟩, _⟩ := st
    rcases (by simpa using hb : b = e ∨ b = it) with rfl | rfl
    · exact ⟨_, he, fun v q => nomatch q⟩
    · exact ⟨o, ho, fun v q => by rw [hd] at q; cases q⟩
  · obtain ⟨⟨old, he⟩, hi, hne⟩ := st
    exact ⟨⟨old, k e (by simp) _ he⟩, hi.at fun o q => k it (by simp) o q, hne⟩
  · intro X hP hw hK hc i pins s σ H E I hf st hg
    subst hP hw hK
    obtain ⟨⟨old, he⟩, hit, hne, hai, hea⟩ := st
    obtain ⟨ys, y, hq, hy⟩ := hg
    obtain ⟨its, rv, tp, hz⟩ := I.tuple hq
    obtain ⟨u, hu, ru⟩ := rv.get hy
    have hel : e < s.heap.objs.size := Heap.lt_size he
    have hil : it < s.heap.objs.size := by
      obtain ⟨_, q, _⟩ := hit
      exact Heap.lt_size q
    have hlt : i < its.toArray.size := by
      have := (List.getElem?_eq_some_iff.mp hu).1
      simpa using this
    have D := Draws.tuple (prog := X.prog) (w := X.w) (A := X.A.in1) (I.ok.hd hc) it a hai its.toArray
    refine wpAny_pyNext_enum_itemD D he ⟨hit, tp⟩ hlt hne (by simp [hne, hea]) fun x h' tk hx ho hit' hT hsz hk => ?_
    have ex : x = u := by
      have h1 : its[i]? = some x := by simpa using hx
      rw [hu] at h1
      exact (Option.some.inj h1).symm
    subst ex
    refine ⟨_, rfl, wpAny_letOwnedTupleGo_enum (s := { s with heap := h', toks := tk + 1 }) ho fun h'' he' sb => ?_⟩
    have hT2 := (sb.2 _ (Nat.ne_of_gt hel)).trans hT
    have new : ObjOk X.prog X.w (upd H s.heap.objs.size (.tup [.int (i : Nat), y])) h'' s.heap.objs.size (.tup [.int (i : Nat), y]) :=
      ⟨by show 2 ≤ sizeLine; decide, [.int i tk, x], .cons ⟨_, rfl⟩ (.cons ru .nil), ⟨_, hT2, rfl, _, rfl⟩⟩
    have I1 : Inv X pins σ (upd H s.heap.objs.size (.tup [.int (i : Nat), y])) { s with heap := h'', toks := tk + 1 } :=
      I.turnedNew (ch := [e, it]) (fun b ob hb q => (sb.2 b fun z => hb (by simp [z])).trans (hk b ob (fun z => hb (by simp [z])) (fun z => hb (by simp [z])) q)) hf (Nat.le_refl _) new
    refine ⟨.ref s.heap.objs.size, _, I1, rfl, ⟨_, y, rfl, I.hok.fresh (Nat.le_refl _), rfl, fun zs hzs => by rw [I.tuple_inj hzs hq]; exact hy⟩, ⟨⟨x, ?_⟩, hit'.1.at fun o q => (sb.2 it (Ne.symm hne)).trans q, hne, hai, hea⟩, fun b hb => ?_⟩
    · have e1 : ((i + 1 : Nat) : Int) = (i : Int) + 1 := by omega
      rw [e1]
      exact he'
    · have hb' : b < s.heap.objs.size := by
        rcases (by simpa using hb : b = e ∨ b = it) with rfl | rfl
        · exact hel
        · exact hil
      rw [upd_ne (Nat.ne_of_lt hb')]
      exact (hf b hb).1
  · intro X hP hw hK hc i pins s σ H E I hf st hg
    subst hP hw hK
    obtain ⟨⟨old, he⟩, hit, hne, hai, hea⟩ := st
    obtain ⟨ys, hq, hy⟩ := hg
    obtain ⟨its, rv, tp, hz⟩ := I.tuple hq
    obtain ⟨f0, f1, f2, f3, f4, f5⟩ := hf it (by simp)
    have D := Draws.tuple (prog := X.prog) (w := X.w) (A := X.A.in1) (I.ok.hd hc) it a hai its.toArray
    have hn : its.toArray.size = i := by rw [List.size_toArray, ← rv.length, hy]
    refine wpAny_pyNext_enum_endD D he (by rw [hn]; exact ⟨hit, tp⟩) fun h' eb => ⟨rfl, I.turned (t' := s.toks) (fun b o hb q => eb b o hb q) f0 f1 f3 f4 f5⟩
  · obtain ⟨⟨_, he⟩, _⟩ := st
    exact wpAny_pyIter_enum he h
section
variable {X : Cx} {ρ : REnv} {μ μ1 : Sto} {e : Expr} {ds : List PyData} {p pos tpos : Pos} {elts : List Expr} {kk : Nat}
noncomputable def iEnT (K : PySem.W.Frag) (ta : TA) : TI := fun σ H R => ta σ H fun vs H1 => ∃ a xs, vs = [.ref a] ∧ SqT K H1 a xs ∧ R (ItT K a) H1
theorem pi_enT {ta : TA} (hg : Gl X "enumerate") (hm : X.mg "enumerate" = none) (ha : PA X [e] ta) (hs : starEach [e] X.env = [(false, eval e X.env)]) : PI X (.Tuple elts kk tpos) (.Call (.Name "enumerate" p) [e] [] pos) (iEnT X.K ta) := by
  refine ⟨fun pins s σ H R I h => ?_⟩
  refine Call_ (ld_blt I hg hm boot_enumerate (PyProof.Rows.callWith_type1 (thn (ha.run pos pins s σ H _ I h) fun us s1 hh => ?_) hs rfl))
  obtain ⟨vs, H1, I1, r1, a, xs, rfl, hq, q⟩ := hh
  obtain ⟨u, rfl, ru⟩ := vals1 r1
  obtain rfl : u = Value.ref a := ru
  obtain ⟨its, rv, tp, hz⟩ := I1.tuple hq
  have hal : a < s1.heap.objs.size := by
    obtain ⟨o, ho, _⟩ := tp
    exact Heap.lt_size ho
  refine jEnumCall (show s1.heap.IsTuple a its.toArray from tp) fun h' he hit hk => wpAny_pyIter_enum he ?_
  have I2 : Inv X pins σ H1 { s1 with heap := h' } := I1.kept (t' := s1.toks) hk
  refine ⟨s1.heap.objs.size + 1, [s1.heap.objs.size + 1, s1.heap.objs.size], _, _, H1, rfl, I2, turn_enT a (s1.heap.objs.size + 1) s1.heap.objs.size, ⟨⟨.none, he⟩, hit, Nat.succ_ne_self _, Nat.ne_of_lt hal, ?_⟩, fun b hb => ?_, q⟩
  · exact Ne.symm (Nat.ne_of_lt (Nat.lt_succ_of_lt hal))
  · have hle : s1.heap.objs.size ≤ b := by
      rcases (by simpa using hb : b = s1.heap.objs.size + 1 ∨ b = s1.heap.objs.size) with z | z
      · rw [z]; exact Nat.le_add_right _ _
      · rw [z]; exact Nat.le_refl _
    exact I1.fpOk hle (I1.hok.fresh hle)
theorem IV.enumT (h : EV X e ρ μ (Tp ds) μ1) (hm : X.mg "enumerate" = none) (hg : Gl X "enumerate" := by rfl) (hs : starEach [e] X.env = [(false, eval e X.env)] := by rfl) :
    IV X (.Tuple elts kk tpos) (.Call (.Name "enumerate" p) [e] [] pos) ρ μ (enD 0 ds) μ1 := by
  intro w σ H m s R q
  refine ⟨_, pi_enT hg hm (pa_cons (p_ex (e := e)) pa_nil hs) hs, ?_⟩
  refine h w σ H m s _ fun v H1 m1 f1 h1 => ?_
  cases h1 with
  | tup ha hd =>
    rename_i c vs
    refine ⟨_, _, rfl, SqT.of (dl_some ha).2, q _ H1 m1 f1 ⟨fun H2 st i d e => ?_, fun H2 st => ⟨vs, SqT.of (st _ _ ha), by rw [enD_len, dqAll_len hd]⟩⟩⟩
    obtain ⟨y, hy, rfl⟩ := enD_get e
    obtain ⟨u, hu, du⟩ := dqAll_get hd hy
    refine ⟨⟨vs, u, SqT.of (st _ _ ha), hu⟩, fun x H3 yy => ?_⟩
    obtain ⟨T0, x0, rfl, hT, rfl, hx⟩ := yy
    have e0 := hx vs (SqT.of (st _ _ ha))
    rw [hu] at e0
    cases e0
    refine ⟨Same.new hT, fun T st2 tr => ?_⟩
    have nT : T0 ∉ T := fun z => by
      obtain ⟨o, eo⟩ := tr T0 z
      rw [hT] at eo; cases eo
    have e1 : ((0 + i : Nat) : Int) = ((i : Nat) : Int) := by omega
    rw [e1]
    exact Dq.tup (dl_of nT upd_same) (.cons (.int _) (.cons (dq_mono (st2.trans (dl_new hT)) _ _ du) .nil))
end
end J
namespace M
open PySem J L2
noncomputable def cutL {α : Type} (xs : List α) (lo hi : Option Int) : List α := (xs.drop (HT.sIx xs.length 0 lo)).take (HT.sIx xs.length xs.length hi - HT.sIx xs.length 0 lo)
theorem cutD_map {α : Type} (f : α → PyData) (xs : List α) (lo hi : Option Int) : cutD (xs.map f) lo hi = (cutL xs lo hi).map f := by
  unfold cutD cutL
  rw [List.length_map, ← List.map_drop, ← List.map_take]
theorem spl_ne (S : List Nat) : ∀ (k : Nat) (acc l : List Nat), TL.spl S k acc l ≠ []
  | k, acc, [] => by rw [TL.spl_nil]; simp
  | 0, acc, c :: r => by
    unfold TL.spl
    split
    · simp
    · exact spl_ne S 0 _ r
  | k + 1, acc, c :: r => by
    unfold TL.spl
    exact spl_ne S k acc r
theorem spl_len (S : List Nat) : ∀ (k : Nat) (acc l : List Nat), ∀ p ∈ TL.spl S k acc l, p.length ≤ acc.length + l.length
  | k, acc, [] => by
    intro p hp
    rw [TL.spl_nil] at hp
    simp at hp
    simp [hp]
  | 0, acc, c :: r => by
    intro p hp
    unfold TL.spl at hp
    split at hp
    · rcases List.mem_cons.mp hp with rfl | hp
      · simp
      · have := spl_len S _ [] r p hp
        simp at this ⊢
        omega
    · have := spl_len S 0 _ r p hp
      simp at this ⊢
      omega
  | k + 1, acc, c :: r => by
    intro p hp
    unfold TL.spl at hp
    have := spl_len S k acc r p hp
    simp
    omega
theorem S_of_tl (s : Str) : SX.S (TL.tl s) = s := TL.mk_tl s
theorem split_list (s t : Str) (h1 : TL.tl t ≠ []) (h2 : (TL.tl t).all (· < 256) = true) : Txt.split s t = (TL.spl (TL.tl t) 0 [] (TL.tl s)).map SX.S := by
  have := SX.split_S (a := TL.tl s) (b := TL.tl t) h1 h2
  rwa [S_of_tl, S_of_tl] at this
theorem split_ne (s t : Str) (h1 : TL.tl t ≠ []) (h2 : (TL.tl t).all (· < 256) = true) : ∃ p ps, Txt.split s t = p :: ps := by
  rw [split_list s t h1 h2]
  cases q : TL.spl (TL.tl t) 0 [] (TL.tl s) with
  | nil => exact absurd q (spl_ne _ _ _ _)
  | cons p ps => exact ⟨_, _, rfl⟩
theorem split_len (s t : Str) (h1 : TL.tl t ≠ []) (h2 : (TL.tl t).all (· < 256) = true) : ∀ p ∈ Txt.split s t, p.length ≤ s.length := by
  intro p hp
  rw [split_list s t h1 h2] at hp
  obtain ⟨q, hq, rfl⟩ := List.mem_map.mp hp
  have := spl_len _ _ _ _ q hq
  rw [TL.len_tl s]
  simpa [TL.len_tl] using this
noncomputable def readClause (s : Str) : PyData := match Txt.split s " " with
  | [] => .none
  | deed :: ws =>
    if inD (.str deed) [.str "join", .str "take"] then putClause deed (readClass (cutL (deed :: ws) (some 1) (some 4))) (readWay (cutL (deed :: ws) (some 4) none))
    else if deed == "clear" then putClause deed (readClass (cutL (deed :: ws) (some 1) none)) (.int 0)
    else if deed == "call" then (match deed :: ws with
      | [a, n, o, x, y, z] => if nameOk n && o == "on" then putClause deed (readClass (cutL [a, n, o, x, y, z] (some 3) none)) (.str n) else .none
      | _ => .none)
    else .none
structure WfC (c : PyData) : Prop where
  ex : ∃ (deed : Str) (e d : Int) (more : PyData), c = .tuple [.str deed, .int e, .int d, more] ∧ 0 ≤ e ∧ e < d ∧ d ≤ 3 ∧ PyData.strOk deed = true ∧ ((∃ i, more = .int i) ∨ ∃ s, more = .str s ∧ PyData.strOk s = true)
noncomputable def isCall : PyData → Bool
  | .tuple (.str d :: _) => d == "call"
  | _ => false
noncomputable def hit (e d e2 d2 : Int) : PyData → Bool
  | .int k => (k % d == e) && (k % d2 == e2)
  | _ => false
noncomputable def share : PyData → PyData → Bool
  | .tuple [_, .int e, .int d, _], .tuple [_, .int e2, .int d2, _] => (rngD 0 (d * d2).toNat).any (hit e d e2 d2)
  | _, _ => false
noncomputable def ahead (cs : List PyData) : PyData → List PyData
  | .tuple [.int i, _] => cutD cs none (some i)
  | _ => []
noncomputable def shareAt : PyData → PyData → Bool
  | .tuple [_, c], o => share c o
  | _, _ => false
noncomputable def fit (cs : List PyData) : Bool :=
  if (cs.map isCall).any id && !((cs.map isCall).all id) then false else !(((enD 0 cs).flatMap fun d => (ahead cs d).map (shareAt d)).any id)
noncomputable def readRound : PyData → PyData
  | .str s => let cs := (Txt.split s "; ").map readClause
    if cs.length > 3 then .none else if cs.any isNone then .none else if fit cs then .tuple cs else .none
  | _ => .none
end M
namespace M
open PySem J L2
theorem readDigit_cases (s : Str) (lo hi : Int) (h0 : 0 ≤ lo) (h9 : hi ≤ 9) : readDigit s lo hi = .none ∨ ∃ i : Int, lo ≤ i ∧ i ≤ hi ∧ readDigit s lo hi = .int i := by
  unfold readDigit
  cases hk : inD (.str s) (digList lo hi) with
  | false => exact .inl (if_neg (by simp))
  | true =>
    obtain ⟨i, hi9, h1, h2, rfl⟩ := dig_in h0 h9 hk
    obtain ⟨e1, e2, e3⟩ := dig_text i hi9
    exact .inr ⟨i, h1, h2, by rw [if_pos rfl, e2]⟩
theorem readClass_cases (ws : List Str) : readClass ws = .none ∨ ∃ e d : Int, 0 ≤ e ∧ e < d ∧ d ≤ 3 ∧ readClass ws = .tuple [.int e, .int d] := by
  match ws with
  | [] => exact .inl rfl
  | [_] => exact .inl rfl
  | [_, _] => exact .inl rfl
  | _ :: _ :: _ :: _ :: _ => exact .inl rfl
  | [a, o, b] =>
    show (if o == ofS then _ else _) = _ ∨ _
    unfold readClass
    dsimp only
    by_cases ho : (o == ofS) = true
    · rw [if_pos ho]
      rcases readDigit_cases b 1 3 (by decide) (by decide) with q | ⟨d, d1, d3, q⟩
      · rw [q]; exact .inl rfl
      · rw [q]
        rcases readDigit_cases a 0 (d - 1) (by decide) (by omega) with q2 | ⟨x, x1, x3, q2⟩
        · dsimp only
          rw [q2]; exact .inl rfl
        · dsimp only
          rw [q2]
          exact .inr ⟨x, d, x1, by omega, d3, rfl⟩
    · rw [if_neg ho]
      exact .inl rfl
theorem readWay_cases (ws : List Str) : readWay ws = .none ∨ ∃ i : Int, readWay ws = .int i := by
  match ws with
  | [] => exact .inl rfl
  | [_] => exact .inl rfl
  | _ :: _ :: _ :: _ => exact .inl rfl
  | [a, b] =>
    unfold readWay
    dsimp only
    by_cases ho : inD (.str a) [.str "left", .str "right"] = true
    · rw [if_pos ho]
      rcases readDigit_cases b 1 4 (by decide) (by decide) with q | ⟨d, d1, d3, q⟩
      · rw [q]; exact .inl rfl
      · rw [q]
        dsimp only
        by_cases hr : (a == ("right" : Str)) = true
        · rw [if_pos hr]; exact .inr ⟨_, rfl⟩
        · rw [if_neg hr]; exact .inr ⟨_, rfl⟩
    · rw [if_neg ho]
      exact .inl rfl
theorem sign_ok {c : Nat} (h : signOk c = true) : c < 256 := by
  have h1 : c ∈ (letters ++ digits).cps.toList := of_decide_eq_true h
  have h2 : ∀ c ∈ (letters ++ digits).cps.toList, c < 256 := by decide +kernel
  exact h2 c h1
theorem name_signs {s : Str} (h : nameOk s = true) : 1 ≤ s.length ∧ s.length ≤ 8 ∧ ∀ c ∈ s.cps.toList, signOk c = true := by
  unfold nameOk at h
  rw [Bool.and_eq_true, Bool.and_eq_true, decide_eq_true_eq, decide_eq_true_eq] at h
  refine ⟨by omega, by omega, ?_⟩
  cases q : s.cps.toList with
  | nil => intro c hc; cases hc
  | cons c cs =>
    rw [q] at h
    have h2 := h.2
    dsimp only at h2
    rw [Bool.and_eq_true] at h2
    exact fun x hx => List.all_eq_true.mp h2.2 x hx
theorem name_ok {s : Str} (h : nameOk s = true) : PyData.strOk s = true := by
  unfold PyData.strOk
  rw [← Array.all_toList, List.all_eq_true]
  intro c hc
  have := sign_ok ((name_signs h).2.2 c hc)
  exact decide_eq_true (by omega)
theorem put_wf {deed : Str} {pl mo : PyData} (hd : PyData.strOk deed = true) (hp : pl = .none ∨ ∃ e d : Int, 0 ≤ e ∧ e < d ∧ d ≤ 3 ∧ pl = .tuple [.int e, .int d]) (hm : mo = .none ∨ (∃ i, mo = .int i) ∨ ∃ s, mo = .str s ∧ PyData.strOk s = true) :
    putClause deed pl mo = .none ∨ WfC (putClause deed pl mo) := by
  rcases hp with rfl | ⟨e, d, h1, h2, h3, rfl⟩
  · exact .inl rfl
  · rcases hm with rfl | ⟨i, rfl⟩ | ⟨s, rfl, hs⟩
    · exact .inl rfl
    · exact .inr ⟨deed, e, d, _, rfl, h1, h2, h3, hd, .inl ⟨i, rfl⟩⟩
    · exact .inr ⟨deed, e, d, _, rfl, h1, h2, h3, hd, .inr ⟨s, rfl, hs⟩⟩
theorem inS2 {s a b : Str} (h : inD (.str s) [.str a, .str b] = true) : s = a ∨ s = b := by
  have h' : ((a == s) || ((b == s) || false)) = true := h
  rw [Bool.or_eq_true, Bool.or_false, beq_iff_eq, beq_iff_eq] at h'
  exact h'.imp Eq.symm Eq.symm
theorem readClause_cases (s : Str) : readClause s = .none ∨ WfC (readClause s) := by
  unfold readClause
  cases Txt.split s " " with
  | nil => exact .inl rfl
  | cons deed ws =>
    dsimp only
    by_cases h : inD (.str deed) [.str "join", .str "take"] = true
    · rw [if_pos h]
      have hd : PyData.strOk deed = true := by rcases inS2 h with rfl | rfl <;> decide +kernel
      exact put_wf hd (readClass_cases _) ((readWay_cases _).imp id .inl)
    · rw [if_neg h]
      by_cases h : (deed == ("clear" : Str)) = true
      · rw [if_pos h]
        have hd : PyData.strOk deed = true := by
          rw [eq_of_beq h]
          decide +kernel
        exact put_wf hd (readClass_cases _) (.inr (.inl ⟨0, rfl⟩))
      · rw [if_neg h]
        by_cases h : (deed == ("call" : Str)) = true
        · rw [if_pos h]
          have hd : PyData.strOk deed = true := by
            rw [eq_of_beq h]
            decide +kernel
          match ws with
          | [] => exact .inl rfl
          | [_] => exact .inl rfl
          | [_, _] => exact .inl rfl
          | [_, _, _] => exact .inl rfl
          | [_, _, _, _] => exact .inl rfl
          | _ :: _ :: _ :: _ :: _ :: _ :: _ => exact .inl rfl
          | [n, o, x, y, z] =>
            dsimp only
            by_cases h2 : (nameOk n && o == ("on" : Str)) = true
            · rw [if_pos h2]
              rw [Bool.and_eq_true] at h2
              exact put_wf hd (readClass_cases _) (.inr (.inr ⟨_, rfl, name_ok h2.1⟩))
            · rw [if_neg h2]
              exact .inl rfl
        · rw [if_neg h]
          exact .inl rfl
theorem wf_canLay {c : PyData} (h : WfC c) : PyData.canLay0 c = true ∧ PyData.depth c ≤ 2 := by
  obtain ⟨deed, e, d, more, rfl, _, _, _, hd, hm⟩ := h
  rcases hm with ⟨i, rfl⟩ | ⟨s, rfl, hs⟩
  · exact ⟨by simp [PyData.canLay0, PyData.canLayAll0, hd], by simp [PyData.depth, PyData.depthAll]⟩
  · exact ⟨by simp [PyData.canLay0, PyData.canLayAll0, hd, hs], by simp [PyData.depth, PyData.depthAll]⟩
theorem cls_lay : ∀ {cs : List PyData}, (∀ c ∈ cs, c = .none ∨ WfC c) → PyData.canLayAll0 cs = true ∧ PyData.depthAll cs ≤ 2
  | [], _ => ⟨rfl, by simp [PyData.depthAll]⟩
  | c :: cs, h => by
    obtain ⟨h1, h2⟩ := cls_lay (cs := cs) fun x hx => h x (List.mem_cons_of_mem _ hx)
    have h3 : PyData.canLay0 c = true ∧ PyData.depth c ≤ 2 := by
      rcases h c List.mem_cons_self with rfl | hw
      · exact ⟨rfl, by simp [PyData.depth]⟩
      · exact wf_canLay hw
    exact ⟨by simp [PyData.canLayAll0, h1, h3.1], by simp only [PyData.depthAll]; omega⟩
theorem cls_shaped {cs : List PyData} (h : ∀ c ∈ cs, c = .none ∨ WfC c) : SeqAt.shaped (.list cs) = true := by
  obtain ⟨h1, h2⟩ := cls_lay h
  unfold SeqAt.shaped
  rw [Bool.and_eq_true]
  refine ⟨by simpa [PyData.canLay0] using h1, decide_eq_true ?_⟩
  simp only [PyData.depth]
  omega
theorem eqv_none {c : PyData} (h : c = .none ∨ WfC c) : PyData.eqv c .none = isNone c := by
  rcases h with rfl | ⟨deed, e, d, more, rfl, _⟩
  · rfl
  · rfl
theorem any_none {cs : List PyData} (h : ∀ c ∈ cs, c = .none ∨ WfC c) : (cs.any fun z => PyData.eqv z .none) = cs.any isNone := by
  induction cs with
  | nil => rfl
  | cons c cs ih =>
    rw [List.any_cons, List.any_cons, eqv_none (h c List.mem_cons_self), ih fun x hx => h x (List.mem_cons_of_mem _ hx)]
end M
namespace J
open PySem PySem.Spec
open PyProof.Rows L2
theorem u65 {k : Nat} {A : Around} (r : Room k A) : A.units + 65 < cLine := by
  have := r.un
  omega
section
variable {X : Cx} {ρ : REnv} {μ μ1 μ2 μ3 : Sto} {x y z r : Ent} {a b c e o : Expr} {es : List Expr} {pos p2 p apos cpos : Pos} {rs : List Ent} {ds out ys : List PyData} {d d2 : PyData} {i j : Int} {s t n : Str} {n0 : Nat}
theorem EV.slC {lo hi : Option Expr} {l h : Option Int} (ha : EV X a ρ μ (.ptr n0) μ1) (hl : PartV X lo ρ μ1 l μ2) (hh : PartV X hi ρ μ2 h μ3) (hn : μ3[n0]? = some ds) : EV X (.Subscript a (.Slice lo hi none p2) pos) ρ μ (Ls (cutD ds l h)) μ3 := by
  intro w σ H m s Q q
  refine ⟨_, pe_slice sl_list (p_ex (e := a)) (p_ox (e := lo)) (p_ox (e := hi)), ?_⟩
  refine ha w σ H m s _ fun v H1 m1 f1 h1 => ?_
  refine hl w σ H1 m1 (s.fr f1) _ fun H2 m2 f2 => ?_
  refine hh w σ H2 m2 ((s.fr f1).fr f2) _ fun H3 m3 f3 => ?_
  obtain ⟨a0, ha0, rfl⟩ := h1
  obtain ⟨vs, e, hd⟩ := m3.cell n0 a0 ds ha0 hn
  exact ⟨_, _, rfl, SqL.of e, new_lst m3 (dq_cut hd l h) fun v H4 m4 f4 h4 => q v H4 m4 (((f1.trans f2).trans f3).trans f4) h4⟩
theorem tNiL (ha : EV X a ρ μ (.dat d) μ1) (hb : EV X b ρ μ1 (Ls ds) μ2) (h1 : flatD d = true) (h2 : ds.all flatD = true) (hm : behindInMarks .NotIn b = false := by rfl) : TV X (.Compare a [.NotIn] [b] pos) ρ μ (!inD d ds) μ2 := TV.cmp op_notIn_seq hm ha hb (r2_inL (neg := true) h1 h2)
theorem Mem.put {K : PySem.W.Frag} {H : Hp} {w : Wd} {k : Nat} {a0 : Addr} {vs : List V} (m : Mem K H w μ) (ha : w.α[k]? = some a0) (hd : DqAll (dl H w.all) vs ds) : Mem K (upd H a0 (.lst vs)) w (μ.set k ds) ∧ Fr w.α H (upd H a0 (.lst vs)) := by
  have ham : a0 ∈ w.α := List.mem_iff_getElem?.mpr ⟨k, ha⟩
  have f : Fr w.α H (upd H a0 (.lst vs)) := fun b o e hb _ => by
    have nb : b ≠ a0 := fun z => hb (by rw [z]; exact ham)
    rw [upd_ne nb]
    exact e
  refine ⟨⟨m.nd, by simp [m.len], fun j b xs h1 h2 => ?_, m.out, fun b hb => ?_, tabs_upd m.tab fun u e => ?_⟩, f⟩
  · by_cases hj : k = j
    · subst hj
      rw [ha] at h1
      cases h1
      have hk : k < μ.length := by
        rw [← m.len]
        exact (List.getElem?_eq_some_iff.mp ha).1
      rw [List.getElem?_set] at h2
      simp [hk] at h2
      subst h2
      exact ⟨vs, upd_same, dqAll_mono f.all _ _ hd⟩
    · rw [List.getElem?_set_ne hj] at h2
      obtain ⟨us, e, hd'⟩ := m.cell j b xs h1 h2
      refine ⟨us, ?_, dqAll_mono f.all _ _ hd'⟩
      have nb : b ≠ a0 := fun z => by
        subst z
        obtain ⟨hj1, e1⟩ := List.getElem?_eq_some_iff.mp h1
        obtain ⟨hk1, e2⟩ := List.getElem?_eq_some_iff.mp ha
        rcases Nat.lt_or_gt_of_ne hj with hlt | hlt
        · exact List.pairwise_iff_getElem.mp m.nd k j hk1 hj1 hlt (by rw [e1, e2])
        · exact List.pairwise_iff_getElem.mp m.nd j k hj1 hk1 hlt (by rw [e1, e2])
      rw [upd_ne nb]
      exact e
  · obtain ⟨o, e, po⟩ := m.ext b hb
    have nb : b ≠ a0 := fun z => m.out b hb (by rw [z]; exact ham)
    exact ⟨o, by rw [upd_ne nb]; exact e, po⟩
  · obtain ⟨us, e1⟩ := m.there ham
    rw [e] at e1
    cases e1
    exact ⟨(fun q z => by cases z), (fun q z => by cases z)⟩
theorem EV.app {k : Nat} (ho : EV X o ρ μ (.ptr k) μ1) (he : EV X e ρ μ1 (.dat d) μ2) (hk : μ2[k]? = some ds) (hl : ds.length ≤ 1000) (hbase : attributeBase o "append" X.env (eval o X.env) = eval o X.env := by rfl)
    (hfew : ((backTo cpos (starEach [e] X.env)).all (fun x => !x.1) && (backToKw cpos (keywordEach [] X.env)).all (fun x => x.1.isSome) && decide ([e].length + ([] : List Keyword).length + (if ([] : List Keyword).isEmpty then 0 else 1) < 30)) = true := by rfl)
    (hline : (apos.endLine == cpos.line) = true := by rfl) (hs : starEach [e] X.env = (false, eval e X.env) :: starEach [] X.env := by rfl) (hp : (backTo cpos (starEach [] X.env)).any (·.1) = false := by rfl) : EV X (.Call (.Attribute o "append" apos) [e] [] cpos) ρ μ Nn (μ2.set k (ds ++ [d])) := by
  intro w σ H m s Q q
  refine ⟨_, pe_bm PySem.F.plainAttrs_list PySem.F.slot_list_append PySem.F.type_list_append mt_append (p_ex (e := o)) (pa_cons (p_ex (e := e)) pa_nil hs) hbase hfew hline hs hp, ?_⟩
  refine ho w σ H m s _ fun v H1 m1 f1 h1 => ?_
  obtain ⟨a0, ha0, rfl⟩ := h1
  have hk1 : k < μ1.length := by
    rw [← m1.len]
    exact (List.getElem?_eq_some_iff.mp ha0).1
  obtain ⟨us, e1, _⟩ := m1.cell k a0 μ1[k] ha0 (by simp [hk1])
  refine ⟨.inl ⟨rfl, us, SqL.of e1⟩, ?_⟩
  refine he w σ H1 m1 (s.fr f1) _ fun u H2 m2 f2 h2 => ?_
  obtain ⟨vs, e2, hd⟩ := m2.cell k a0 ds ha0 hk
  obtain ⟨mm, ff⟩ := m2.put (ds := ds ++ [d]) (vs := vs ++ [u]) ha0 (dqAll_append hd (.cons h2 .nil))
  exact ⟨a0, vs, u, rfl, rfl, e2, by rw [dqAll_len hd]; exact small1000 hl, q _ _ mm ((f1.trans f2).trans ff) Dq.non⟩
theorem EV.pop {k : Nat} {jn : Nat} (ho : EV X o ρ μ (.ptr k) μ1) (he : EV X e ρ μ1 (Ii (jn : Int)) μ2) (hk : μ2[k]? = some ds) (hj : ds[jn]? = some d) (hl : ds.length ≤ 1000) (hsi : seqIndex? (jn : Int) ds.length = some jn) (hbase : attributeBase o "pop" X.env (eval o X.env) = eval o X.env := by rfl)
    (hfew : ((backTo cpos (starEach [e] X.env)).all (fun x => !x.1) && (backToKw cpos (keywordEach [] X.env)).all (fun x => x.1.isSome) && decide ([e].length + ([] : List Keyword).length + (if ([] : List Keyword).isEmpty then 0 else 1) < 30)) = true := by rfl)
    (hline : (apos.endLine == cpos.line) = true := by rfl) (hs : starEach [e] X.env = (false, eval e X.env) :: starEach [] X.env := by rfl) (hp : (backTo cpos (starEach [] X.env)).any (·.1) = false := by rfl) : EV X (.Call (.Attribute o "pop" apos) [e] [] cpos) ρ μ (.dat d) (μ2.set k (ds.eraseIdx jn)) := by
  intro w σ H m s Q q
  refine ⟨_, pe_bm PySem.F.plainAttrs_list PySem.F.slot_list_pop PySem.F.type_list_pop mt_popAt (p_ex (e := o)) (pa_cons (p_ex (e := e)) pa_nil hs) hbase hfew hline hs hp, ?_⟩
  refine ho w σ H m s _ fun v H1 m1 f1 h1 => ?_
  obtain ⟨a0, ha0, rfl⟩ := h1
  have hk1 : k < μ1.length := by
    rw [← m1.len]
    exact (List.getElem?_eq_some_iff.mp ha0).1
  obtain ⟨us, e1, _⟩ := m1.cell k a0 μ1[k] ha0 (by simp [hk1])
  refine ⟨.inl ⟨rfl, us, SqL.of e1⟩, ?_⟩
  refine he w σ H1 m1 (s.fr f1) _ fun u H2 m2 f2 h2 => ?_
  cases h2
  obtain ⟨vs, e2, hd⟩ := m2.cell k a0 ds ha0 hk
  obtain ⟨y, hy, dy⟩ := dqAll_get hd hj
  have he' : DqAll (dl H2 w.all) (vs.eraseIdx jn) (ds.eraseIdx jn) := by
    rw [List.eraseIdx_eq_take_drop_succ, List.eraseIdx_eq_take_drop_succ]
    exact dqAll_append (dqAll_take _ hd) (dqAll_drop _ hd)
  obtain ⟨mm, ff⟩ := m2.put (ds := ds.eraseIdx jn) (vs := vs.eraseIdx jn) ha0 he'
  have hjl := (List.getElem?_eq_some_iff.mp hj).1
  exact ⟨a0, vs, (jn : Int), jn, y, rfl, rfl, e2, by omega, by omega, by rw [dqAll_len hd]; exact hsi, hy, q _ _ mm ((f1.trans f2).trans ff) (dq_mono ff.all _ _ dy)⟩
end
end J
namespace M
open PySem J L2
noncomputable def clauseStands (ns : List Str) (at_ : Int) : PyData → Bool
  | .tuple [.str deed, _, .int d, more] => !(deed == "call" && !inD more ((cutL ns (some (if d == 1 then at_ + 1 else 0)) none).map .str))
  | _ => false
noncomputable def canStand (text : PyData) (ns : List Str) (at_ : Int) : Bool := match readRound text with
  | .tuple cs => cs.all (clauseStands ns at_)
  | _ => false
noncomputable def areRounds : PyData → Bool
  | .tuple ds => (decide (1 ≤ (ds.length : Int)) && decide ((ds.length : Int) ≤ 5)) && ds.all fun x => !isNone (readRound x)
  | _ => false
noncomputable def baseOk : PyData → Bool
  | .int b => decide (1 ≤ b) && decide (b ≤ 4)
  | _ => false
noncomputable def isPlan : PyData → Bool
  | .tuple [n, g, b, r] => baseOk b && (isName n && (isGoal g && areRounds r))
  | _ => false
noncomputable def smallT (d : PyData) : Prop := ∀ s, d = .str s → s.length ≤ 99990
noncomputable def smallR (d : PyData) : Prop := ∀ ds, d = .tuple ds → ∀ x ∈ ds, smallT x
noncomputable def smallP (d : PyData) : Prop := ∀ n g b r, d = .tuple [n, g, b, r] → smallT n ∧ smallR r
theorem readRound_cases (d : PyData) : readRound d = .none ∨ ∃ cs, readRound d = .tuple cs ∧ ∀ c ∈ cs, WfC c := by
  unfold readRound
  split
  · rename_i s
    dsimp only
    split
    · exact .inl rfl
    · split
      · exact .inl rfl
      · rename_i h
        split
        · refine .inr ⟨_, rfl, fun c hc => ?_⟩
          obtain ⟨p, hp, rfl⟩ := List.mem_map.mp hc
          rcases readClause_cases p with q | q
          · exfalso
            apply h
            rw [List.any_eq_true]
            exact ⟨_, hc, by rw [q]; rfl⟩
          · exact q
        · exact .inl rfl
  · exact .inl rfl
noncomputable def nameOf : PyData → Str
  | .tuple (.str n :: _) => n
  | _ => Str.empty
noncomputable def roundsOf : PyData → List PyData
  | .tuple [_, _, _, .tuple rs] => rs
  | _ => []
structure Good (ps : List PyData) : Prop where
  le4 : ps.length ≤ 4
  ge1 : 1 ≤ ps.length
  each : ∀ p ∈ ps, isPlan p = true ∧ smallP p
  nd : (ps.map nameOf).Nodup
  stand : ∀ (i : Nat) (p : PyData), ps[i]? = some p → ∀ t ∈ roundsOf p, canStand t (ps.map nameOf) i = true
theorem plan_shape {p : PyData} (h : isPlan p = true) : ∃ n g b rs, p = .tuple [.str n, .str g, .int b, .tuple rs] ∧ nameOk n = true ∧ isGoal (.str g) = true ∧ 1 ≤ b ∧ b ≤ 4 ∧ areRounds (.tuple rs) = true := by
  cases p with
  | tuple l =>
    match l, h with
    | [n, g, b, r], h =>
      have h' : (baseOk b && (isName n && (isGoal g && areRounds r))) = true := h
      rw [Bool.and_eq_true, Bool.and_eq_true, Bool.and_eq_true] at h'
      obtain ⟨h1, h2, h3, h4⟩ := h'
      cases b <;> first | (cases h1; done) | skip
      cases n <;> first | (cases h2; done) | skip
      cases g <;> first | (cases h3; done) | skip
      cases r <;> first | (cases h4; done) | skip
      rename_i b n g rs
      unfold baseOk at h1
      rw [Bool.and_eq_true, decide_eq_true_eq, decide_eq_true_eq] at h1
      exact ⟨n, g, b, rs, rfl, h2, h3, h1.1, h1.2, h4⟩
    | [], h => cases h
    | [_], h => cases h
    | [_, _], h => cases h
    | [_, _, _], h => cases h
    | _ :: _ :: _ :: _ :: _ :: _, h => cases h
  | _ => cases h
theorem rounds_str {rs : List PyData} (h : areRounds (.tuple rs) = true) : ∀ x ∈ rs, ∃ s, x = .str s := by
  intro x hx
  unfold areRounds at h
  rw [Bool.and_eq_true] at h
  have h2 := List.all_eq_true.mp h.2 x hx
  cases x with
  | str s => exact ⟨s, rfl⟩
  | _ => simp [readRound, isNone] at h2
theorem plan_nob {p : PyData} (h : isPlan p = true) : nob p = true := by
  obtain ⟨n, g, b, rs, rfl, _, _, _, _, hr⟩ := plan_shape h
  have : nobAll rs = true := nobAll_of fun x hx => by
    obtain ⟨s, rfl⟩ := rounds_str hr x hx
    rfl
  simp [nob, nobAll, this]
end M
namespace G
open PySem J
structure Pu where
  a : Int
  b : Int
  c : Int
noncomputable def Pu.ds (p : Pu) : List PyData := [.int p.a, .int p.b, .int p.c]
noncomputable def Pu.ok (p : Pu) : Prop := 0 ≤ p.a ∧ p.a < 2147483563 ∧ 0 ≤ p.b
noncomputable def mixA (p : Pu) : Int := (p.a * (p.a % 997 + 40014) + 12211 * (p.c + 1) + 7) % 2147483563
noncomputable def draw (m : Int) (p : Pu) : Int × Pu :=
  if 0 < p.b then (p.b % m, ⟨mixA p, p.b / m, p.c + 1⟩) else (mixA p / 53 % m, ⟨mixA p, p.b, p.c + 1⟩)
theorem draw_ok {m : Int} {p : Pu} (h : p.ok) (hm : 0 < m) : 0 ≤ (draw m p).1 ∧ (draw m p).1 < m ∧ (draw m p).2.ok := by
  obtain ⟨h1, h2, h3⟩ := h
  have a1 : 0 ≤ mixA p := Int.emod_nonneg _ (by decide)
  have a2 : mixA p < 2147483563 := Int.emod_lt_of_pos _ (by decide)
  unfold draw
  split
  · exact ⟨Int.emod_nonneg _ (by omega), Int.emod_lt_of_pos _ hm, a1, a2, Int.ediv_nonneg h3 (by omega)⟩
  · exact ⟨Int.emod_nonneg _ (by omega), Int.emod_lt_of_pos _ hm, a1, a2, h3⟩
noncomputable def nth {α : Type} (d : α) (l : List α) (i : Int) : α := l.getD i.toNat d
theorem nth_some {α : Type} {d : α} {l : List α} {i : Int} (h0 : 0 ≤ i) (h1 : i < l.length) : l[i.toNat]? = some (nth d l i) := by
  have : i.toNat < l.length := by omega
  unfold nth
  rw [List.getD_eq_getElem?_getD]
  simp [this]
theorem nth_mem {α : Type} {d : α} {l : List α} {i : Int} (h0 : 0 ≤ i) (h1 : i < l.length) : nth d l i ∈ l := List.mem_iff_getElem?.mpr ⟨_, nth_some h0 h1⟩
noncomputable def pick {α : Type} (d : α) (l : List α) (p : Pu) : α × Pu := (nth d l (draw l.length p).1, (draw l.length p).2)
theorem pick_ok {α : Type} {d : α} {l : List α} {p : Pu} (h : p.ok) (hl : l ≠ []) : (pick d l p).1 ∈ l ∧ (pick d l p).2.ok := by
  have hp : 0 < (l.length : Int) := by
    have := List.length_pos_iff.mpr hl
    omega
  obtain ⟨h1, h2, h3⟩ := draw_ok (m := l.length) h hp
  exact ⟨nth_mem h1 h2, h3⟩
noncomputable def run {α β : Type} (f : β → Pu → α × Pu) : List β → Pu → List α × Pu
  | [], p => ([], p)
  | b :: bs, p => ((f b p).1 :: (run f bs (f b p).2).1, (run f bs (f b p).2).2)
theorem run_snoc {α β : Type} (f : β → Pu → α × Pu) : ∀ (bs : List β) (b : β) (p : Pu), run f (bs ++ [b]) p = ((run f bs p).1 ++ [(f b (run f bs p).2).1], (f b (run f bs p).2).2)
  | [], b, p => rfl
  | x :: bs, b, p => by
    have := run_snoc f bs b (f x p).2
    show ((f x p).1 :: (run f (bs ++ [b]) (f x p).2).1, (run f (bs ++ [b]) (f x p).2).2) = _
    rw [this]
    rfl
theorem run_len {α β : Type} (f : β → Pu → α × Pu) : ∀ (bs : List β) (p : Pu), (run f bs p).1.length = bs.length
  | [], p => rfl
  | b :: bs, p => by
    show ((f b p).1 :: (run f bs (f b p).2).1).length = _
    rw [List.length_cons, run_len f bs, List.length_cons]
theorem run_ok {α β : Type} {f : β → Pu → α × Pu} {R : β → α → Prop} : ∀ (bs : List β) (p : Pu), (∀ b ∈ bs, ∀ q, q.ok → R b (f b q).1 ∧ (f b q).2.ok) → p.ok → (∀ x ∈ (run f bs p).1, ∃ b ∈ bs, R b x) ∧ (run f bs p).2.ok
  | [], p, hf, h => ⟨fun x hx => by simp [run] at hx, h⟩
  | b :: bs, p, hf, h => by
    obtain ⟨h1, h2⟩ := hf b List.mem_cons_self p h
    obtain ⟨h3, h4⟩ := run_ok bs (f b p).2 (fun c hc => hf c (List.mem_cons_of_mem _ hc)) h2
    refine ⟨fun x hx => ?_, h4⟩
    have hx' : x ∈ (f b p).1 :: (run f bs (f b p).2).1 := hx
    rcases List.mem_cons.mp hx' with rfl | hx
    · exact ⟨b, List.mem_cons_self, h1⟩
    · obtain ⟨c, hc, r⟩ := h3 x hx
      exact ⟨c, List.mem_cons_of_mem _ hc, r⟩
noncomputable abbrev many {α : Type} (f : Pu → α × Pu) (n : Nat) (p : Pu) : List α × Pu := run (fun _ => f) (List.range n) p
noncomputable def words : List Str := ["join", "take", "clear", "call", "plan", "base", "all", "last", "before", "left", "right", "on", "of", "a", "a1", "z9"]
noncomputable def signs : List Nat := (M.letters ++ M.digits).cps.toList
noncomputable def tag (p : Pu) : Str × Pu :=
  let r := draw 4 p
  if r.1 = 0 then pick Str.empty words r.2
  else
    let f := draw 26 r.2
    let n := draw 8 f.2
    let q := many (pick 0 signs) n.1.toNat n.2
    (⟨(nth 0 signs f.1 :: q.1).toArray⟩, q.2)
noncomputable def spares : List Str := ["a", "b", "up2", "d", "e"]
noncomputable def freshTag (found : List Str) (t : Str) : Str := if t ∈ found then (spares.filter fun s => decide (s ∉ found)).headD Str.empty else t
noncomputable def tags (p : Pu) : Nat → List Str × Pu
  | 0 => ([], p)
  | n + 1 => ((tags p n).1 ++ [freshTag (tags p n).1 (tag (tags p n).2).1], (tag (tags p n).2).2)
noncomputable def goalD (p : Pu) : (Str × Int) × Pu :=
  let r := draw 4 p
  if r.1 < 2 then ((nth Str.empty ["all", "before"] r.1, 0), r.2)
  else
    let k := draw 4 r.2
    (("last", 1 + k.1), k.2)
structure Part where
  word : Str
  over : Int
  by_ : Int
  side : Str
  far : Int
  tag : Str
noncomputable def Part.d (x : Part) : PyData := .tuple [.str x.word, .int x.over, .int x.by_, .str x.side, .int x.far, .str x.tag]
noncomputable def oversN (by_ : Nat) (p : Pu) : Nat → List Int × List Int × Pu
  | 0 => ((List.range by_).map fun (i : Nat) => (0 + (i : Int)), [], p)
  | n + 1 =>
    let s := oversN by_ p n
    let r := draw s.1.length s.2.2
    (s.1.eraseIdx r.1.toNat, s.2.1 ++ [nth 0 s.1 r.1], r.2)
noncomputable def overs (by_ : Nat) (p : Pu) : List Int × Pu :=
  let r := draw by_ p
  (oversN by_ r.2 (1 + r.1).toNat).2
structure Mate where
  tag : Str
  goal : Str × Int
  base : Int
  rounds : List (List Part)
noncomputable def Mate.d (x : Mate) : PyData := .tuple [.str x.tag, .tuple [.str x.goal.1, .int x.goal.2], .int x.base, .list (x.rounds.map fun r => .list (r.map Part.d))]
noncomputable def ends (x : Part) : Str := M.strI x.over ++ " of " ++ M.strI x.by_
noncomputable def clause (x : Part) : Str :=
  if x.word = "call" then "call " ++ x.tag ++ " on " ++ ends x
  else if x.word = "clear" then "clear " ++ ends x
  else x.word ++ " " ++ ends x ++ " " ++ x.side ++ " " ++ M.strI x.far
noncomputable def line (r : List Part) : Str := Txt.join "; " (r.map clause)
noncomputable def aim (g : Str × Int) : Str := if g.1 = "last" then g.1 ++ " " ++ M.strI g.2 else g.1
noncomputable def told (x : Mate) : PyData := .tuple [.str x.tag, .str (aim x.goal), .int x.base, .tuple (x.rounds.map fun r => .str (line r))]
end G
namespace J
open PySem PySem.Spec
open PyProof.Rows L2
section
variable {w : World} {P : Program} {K : PySem.W.Frag} {base : Heap} {mg : Str → Option Value}
theorem fn_mk {x qual : Str} {st : Stmt} {f : Addr} {fd : FuncData} {N ps : List Str} {k : Nat} {C : Con} (F : Fun K x qual st f fd) (Sc : FnScope N ps (defScope st)) (hN : ps.length ≤ N.length) (hlen : ∀ rs μ r μ', C rs μ r μ' → rs.length = ps.length ∧ μ'.length = μ.length)
    (body : ∀ (cdv : Value) (A : Around) (outer : List Env) (s : Shared) (H : Hp) (E : XK), Room k (A.deeper (envOfC qual (defScope st) s.heap.objs.size f cdv)) → ∀ rs μ r μ', C rs μ r μ' →
      ST (cxOf CX0 P w K mg base N qual (defScope st) f cdv A outer s H E).nox W0 μ.length (defBody st) (rs.map some ++ List.replicate (N.length - rs.length) none) μ (PostR r μ')) : FnOk P w K mg base CX0 (k + 1) f fd ps (SpV K ps C) := by
  refine F.ok Sc (fun vs H Q E h => ?_) (fun cdv A outer s H vs Q E hr h => ?_)
  · obtain ⟨w0, μ, rs, r, μ', _, hv, hl, _⟩ := h
    rw [hv.1, hl]
  · obtain ⟨w0, μ, rs, r, μ', m, hv, hl, hC, q⟩ := h
    have hb := body cdv A outer s H E hr rs μ r μ' hC
    refine hb w0 _ H _ (Nat.le_of_eq m.len.symm) m (sl_start hv (by omega)) fun o ho => ?_
    have hw : w0.cut μ.length = w0 := by
      show (⟨w0.α.take μ.length, w0.ξ⟩ : Wd) = w0
      rw [← m.len, List.take_length]
    cases o with
    | ret r2 μ2 =>
      obtain ⟨rfl, rfl⟩ := ho
      intro v H' m' f hv'
      rw [hw] at m' hv'
      exact q v H' m' f hv'
    | nx ρ2 μ2 => exact False.elim ho
    | brk ρ2 μ2 => exact False.elim ho
    | ct ρ2 μ2 => exact False.elim ho
    | rse ρ2 μ2 C fs => exact False.elim ho
end
structure Mth (P : Program) (w : World) (K : PySem.W.Frag) (mg : Str → Option Value) (base : Heap) (C : Addr) (m : Str) (k : Nat) (ps : List Str) (c : Con) : Prop where
  ex : ∃ f fd, FnOk P w K mg base CX0 k f fd ps (SpV K ps c) ∧ Meth K C m f ∧ Binds K fd ps []
structure Prp (P : Program) (w : World) (K : PySem.W.Frag) (mg : Str → Option Value) (base : Heap) (C : Addr) (m : Str) (k : Nat) (c : Con) : Prop where
  ex : ∃ p f fd, FnOk P w K mg base CX0 k f fd ["self"] (SpV K ["self"] c) ∧ PropOf K C m p f ∧ Binds K fd ["self"] []
section
variable {X : Cx} {ρ : REnv} {μ μ1 μ2 μ3 : Sto} {x y z r : Ent} {a b c e o : Expr} {es : List Expr} {pos p2 p apos cpos : Pos} {rs : List Ent} {ds out ys : List PyData} {d d2 : PyData} {i j : Int} {s t n f m : Str} {C : Addr} {fs : List (Str × PyData)} {k : Nat} {ps : List Str} {cn : Con}
theorem lk_dq {H : Hp} : ∀ {ws : List (Str × V)} {fs : List (Str × PyData)}, ws.map (·.1) = fs.map (·.1) → DqAll H (ws.map (·.2)) (fs.map (·.2)) → fs.lookup f = some d → ∃ v, ws.lookup f = some v ∧ Dq H v d
  | [], fs, h1, h2, h3 => by
    cases fs with
    | nil => simp at h3
    | cons a as => simp at h1
  | (g, v) :: ws, [], h1, h2, h3 => by simp at h1
  | (g, v) :: ws, (g', e) :: fs, h1, h2, h3 => by
    simp at h1
    obtain ⟨rfl, h1⟩ := h1
    cases h2 with
    | cons ha hb =>
      rw [List.lookup_cons] at h3 ⊢
      cases hg : (f == g) with
      | true => rw [hg] at h3; cases h3; exact ⟨v, rfl, ha⟩
      | false => rw [hg] at h3; exact lk_dq h1 hb h3
theorem lk_none : ∀ {ws : List (Str × V)} {fs : List (Str × PyData)}, ws.map (·.1) = fs.map (·.1) → fs.lookup f = none → ws.lookup f = none
  | [], fs, h1, h3 => by simp
  | (g, v) :: ws, [], h1, h3 => by simp at h1
  | (g, v) :: ws, (g', e) :: fs, h1, h3 => by
    simp at h1
    obtain ⟨rfl, h1⟩ := h1
    rw [List.lookup_cons] at h3 ⊢
    cases hg : (f == g) with
    | true => rw [hg] at h3; cases h3
    | false => rw [hg] at h3; exact lk_none h1 h3
theorem EV.fld (ho : EV X o ρ μ (.obj C fs) μ1) (cl : Cls X.K C) (na : NoAttr X.K C f) (hl : fs.lookup f = some d) (hb : attributeBase o f X.env (eval o X.env) = eval o X.env := by rfl) : EV X (.Attribute o f pos) ρ μ (.dat d) μ1 := by
  intro w σ H m s Q q
  refine ⟨_, pe_fld (p_ex (e := o)) hb, ?_⟩
  refine ho w σ H m s _ fun v H1 m1 f1 h1 => ?_
  obtain ⟨x, dx, ws, rfl, hx, hn, hd⟩ := h1
  obtain ⟨u, hu, du⟩ := lk_dq hn hd hl
  exact ⟨x, C, dx, ws, u, rfl, (dl_some hx).2, cl, na, hu, q u H1 m1 f1 du⟩
theorem EV.prop (ho : EV X o ρ μ (.obj C fs) μ1) (cl : Cls X.K C) (hp : Prp X.prog X.w X.K X.mg X.base C f k cn) (hr : Room (k + 1) X.A) (hC : cn [.obj C fs] μ1 r μ2) (hb : attributeBase o f X.env (eval o X.env) = eval o X.env := by rfl) : EV X (.Attribute o f pos) ρ μ r μ2 := by
  intro w σ H m s Q q
  obtain ⟨p0, g, fd, F, po, bi⟩ := hp.ex
  refine ⟨_, pe_prop (E := E0) (p_ex (e := o)) cl po F hr bi .nil pass0 hb, ?_⟩
  refine ho w σ H m s _ fun v H1 m1 f1 h1 => ?_
  have h1' := h1
  obtain ⟨x, dx, ws, rfl, hx, hn, hd⟩ := h1
  exact ⟨x, dx, ws, rfl, (dl_some hx).2, w, μ1, _, r, μ2, m1, .cons h1' .nil, rfl, hC, fun v H' m2 f2 h2 => q v H' m2 (f1.trans f2) h2⟩
theorem EV.meth {pl : Sem Bool} (ho : EV X o ρ μ (.obj C fs) μ1) (cl : Cls X.K C) (hm : Mth X.prog X.w X.K X.mg X.base C m k ps cn) (hr : Room k X.A) (hl : fs.lookup m = none) (ha : AV X (e :: es) ρ μ1 rs μ2) (hC : cn (.obj C fs :: rs) μ2 r μ3) (hps : rs.length + 1 = ps.length := by rfl)
    (hst : starEach (e :: es) X.env = (false, eval e X.env) :: starEach es X.env := by rfl) (hpl : (backTo pos (starEach es X.env)).any (·.1) = false := by rfl)
    (ht : eval (.Call (.Attribute o m apos) (e :: es) [] pos) X.env = (do
      let ov ← eval o X.env
      standAt apos.atName
      let (f, first) ← holding [ov] (getMethod ov m pl)
      callWith pos f first (backTo pos (starEach (e :: es) X.env)) (backToKw pos (keywordEach [] X.env))) := by rfl) : EV X (.Call (.Attribute o m apos) (e :: es) [] pos) ρ μ r μ3 := by
  intro w σ H m0 s Q q
  obtain ⟨g, fd, F, me, bi⟩ := hm.ex
  refine ⟨_, pe_meth (E := E0) (pl := pl) (p_ex (e := o)) cl me F hr bi .nil pass0 (p_ax (e := e :: es)) hst hpl ht, ?_⟩
  refine ho w σ H m0 s _ fun v H1 m1 f1 h1 => ?_
  have h1' := h1
  obtain ⟨x, dx, ws, rfl, hx, hn, hd⟩ := h1
  refine ⟨x, dx, ws, rfl, (dl_some hx).2, lk_none hn hl, ?_⟩
  refine ha w σ H1 m1 (s.fr f1) _ fun vs H2 m2 f2 h2 => ?_
  exact ⟨w, μ2, .obj C fs :: rs, r, μ3, m2, by rw [List.append_nil]; exact (Vas.cons (r := .obj C fs) (h1'.fr f2) h2), (show (Ent.obj C fs :: rs).length = ps.length from hps), hC, fun v H' m3 f3 h3 => q v H' m3 ((f1.trans f2).trans f3) h3⟩
noncomputable def spInit (K : PySem.W.Frag) (C : Addr) (f : Str) (G : List PyData → Prop) : Sp := fun vs H Q _ => ∃ x dx v w μ ps, vs = [.ref x, v] ∧ H x = some (.ins C dx []) ∧ x ∈ w.ξ ∧ Mem K H w μ ∧ Val K H w v (Tp ps) ∧ G ps ∧
  ∀ H1, Mem K H1 w μ → Fr w.α H H1 → Val K H1 w v (Tp ps) → Q .non (upd H1 x (.ins C dx [(f, v)]))
structure Mak (P : Program) (w : World) (K : PySem.W.Frag) (mg : Str → Option Value) (base : Heap) (n : Str) (C : Addr) (f : Str) (k : Nat) (ps : List Str) (G : List PyData → Prop) : Prop where
  ex : ∃ g fd, FnOk P w K mg base CX0 k g fd ps (spInit K C f G) ∧ Mk K C g ∧ mg n = some (.ref C) ∧ Binds K fd ps []
theorem make_end {K : PySem.W.Frag} {H H1 : Hp} {w : Wd} {xx dx : Addr} {v : V} {ps : List PyData} {Q : VK} (m : Mem K H w μ) (hx : H xx = none) (hdx : H dx = none) (hne : dx ≠ xx)
    (q : ∀ u H', Mem K H' w μ → Fr w.α H H' → Val K H' w u (.obj C [(f, .tuple ps)]) → Q u H') (m1 : Mem K H1 (wk' w xx) μ) (f1 : Fr w.α (upd (upd H dx (.own xx)) xx (.ins C dx [])) H1) (h1 : Val K H1 (wk' w xx) v (Tp ps)) : Q (.ref xx) (upd H1 xx (.ins C dx [(f, v)])) := by
  have hxa : xx ∉ w.all := m.freshA hx
  have f2 : Fr w.α H (upd H1 xx (.ins C dx [(f, v)])) := fun b o e nb nt => by
    have b1 : b ≠ xx := ne_of_none e hx
    have b2 : b ≠ dx := ne_of_none e hdx
    rw [upd_ne b1]
    exact f1 b o (by rw [upd_ne b1, upd_ne b2]; exact e) nb nt
  have g : Same (dl H1 (wk' w xx).all) (dl (upd H1 xx (.ins C dx [(f, v)])) w.all) := same_outs.trans (dl_sub fun b hb => all_wk'.mpr (.inr hb))
  exact q _ _ m1.outs.unkeep f2 ⟨xx, dx, [(f, v)], rfl, dl_of hxa upd_same, rfl, .cons (dq_mono g _ _ h1) .nil⟩
theorem make_mem {K : PySem.W.Frag} {H : Hp} {w : Wd} {xx dx : Addr} {o o' : HO} (m : Mem K H w μ) (hx : H xx = none) (hdx : H dx = none) (hne : dx ≠ xx) (po : Pl o := by exact ⟨(fun q z => by cases z), (fun q z => by cases z)⟩) : Mem K (upd (upd H dx o') xx o) (wk' w xx) μ :=
  (m.same (Same.new hdx)).keep (by rw [upd_ne (Ne.symm hne)]; exact hx) po
theorem make_val {K : PySem.W.Frag} {H : Hp} {w : Wd} {xx dx : Addr} {o o' : HO} {v : V} {ps : List PyData} (h : Val K H w v (Tp ps)) (hx : H xx = none) (hdx : H dx = none) : Val K (upd (upd H dx o') xx o) (wk' w xx) v (Tp ps) := by
  have hS : Same H (upd (upd H dx o') xx o) := fun b u e => by
    rw [upd_ne (ne_of_none e hx), upd_ne (ne_of_none e hdx)]
    exact e
  exact dq_mono (keep_out (K := K) hx (Fr.of_same hS) ⟨_, upd_same⟩) _ _ h
theorem EV.make {G : List PyData → Prop} {gs : List PyData} (M : Mak X.prog X.w X.K X.mg X.base n C f k ps G) (hr : Room (k + 1) X.A) (ha : EV X e ρ μ (Tp gs) μ1) (hG : G gs) (hg : Gl X n := by rfl) (hs : starEach [e] X.env = (false, eval e X.env) :: starEach [] X.env := by rfl) (hdb : (n == ("__debug__" : Str)) = false := by decide)
    (hpl : (backTo pos (starEach [] X.env)).any (·.1) = false := by rfl) : EV X (.Call (.Name n p) [e] [] pos) ρ μ (.obj C [(f, .tuple gs)]) μ1 := by
  intro w σ H m s Q q
  obtain ⟨g, fd, F, mk, hm, bi⟩ := M.ex
  refine ⟨_, pe_make (E := E0) mk F hr hg hm bi .nil pass0 (pa_cons (p_ex (e := e)) pa_nil hs) hdb hs hpl, ?_⟩
  refine ha w σ H m s _ fun v H1 m1 f1 h1 => ?_
  intro x dx hx hdx hne
  refine ⟨x, dx, v, wk' w x, μ1, gs, rfl, upd_same, List.mem_cons_self, make_mem m1 hx hdx hne, make_val h1 hx hdx, hG, fun H2 m2 f2 h2 => ⟨rfl, ?_⟩⟩
  exact make_end (Q := Q) (v := v) m1 hx hdx hne (fun u H' mm ff hh => q u H' mm (f1.trans ff) hh) m2 f2 h2
end
end J
namespace J
open PySem PySem.Spec
open PyProof.Rows L2
theorem use_evf {X : Cx} {e : Expr} {ρ : REnv} {μ μ' : Sto} {xs : List PyData} {w : Wd} {σ : L2.St} {H : Hp} {Q : VK} (h : EVF X e ρ μ xs μ') (m : Mem X.K H w μ) (s : Sl X.K H w σ ρ)
    (q : ∀ p H' vs, Mem X.K H' (wk' w p) μ' → Fr w.α H H' → Nw H p → H' p = some (.lst vs) → DqAll (dl H' (wk' w p).all) vs xs → Q (.ref p) H') : EX X e σ H Q := h w σ H m s Q q
theorem use_ev {X : Cx} {e : Expr} {ρ : REnv} {μ μ' : Sto} {r : Ent} {w : Wd} {σ : L2.St} {H : Hp} {Q : VK} (h : EV X e ρ μ r μ') (m : Mem X.K H w μ) (s : Sl X.K H w σ ρ) (q : ∀ v H', Mem X.K H' w μ' → Fr w.α H H' → Val X.K H' w v r → Q v H') : EX X e σ H Q := h w σ H m s Q q
section
variable {X : Cx}
theorem call_tupleF : CallR X (.type "tuple") (fun xs H Q => ∃ p ys, xs = [.ref p] ∧ SqL X.K H p ys ∧ ∀ l o, H l = none → o.cls = .type "tuple" → o.dict = none → Q (.ref l) (upd H l (.frz o (.tup ys)))) := by
  intro pins s σ H xs us Q I r h
  obtain ⟨p, ys, rfl, hq, q⟩ := h
  obtain ⟨u, rfl, rx⟩ := vals1 r
  obtain rfl : u = Value.ref p := rx
  obtain ⟨its, r2, pl, hz⟩ := I.list hq
  have hl := r2.length
  refine call_tuple_list pl.isList (fun g kp => ?_) (by simp only [List.size_toArray] <;> omega)
  have I1 : Inv X pins σ H { s with heap := g } := I.kept (t' := s.toks) kp
  have ho : (g.push ({ cls := .type "tuple", data := .seq its.toArray } : Obj)).get? g.objs.size = some { cls := .type "tuple", data := .seq its.toArray } := Heap.get?_push_size _ rfl
  have I2 : Inv X pins σ (upd H g.objs.size (.frz { cls := .type "tuple", data := .seq its.toArray } (.tup ys))) { s with heap := g.push { cls := .type "tuple", data := .seq its.toArray } } :=
    I1.laid (t' := s.toks) (fun b o e => Heap.get?_push_of_some _ e) (Nat.le_refl _) ⟨ho, hz, its, r2, IsTup.new _ _⟩
  exact ⟨.ref g.objs.size, _, I2, rfl, q _ _ (I1.hok.fresh (Nat.le_refl _)) rfl rfl⟩
noncomputable def tTix (r : V → List V → Hp → VK → Prop) (to te : TE) : TE := fun σ H Q => to σ H fun x H1 => (∃ p ob xs, x = .ref p ∧ H1 p = some (.frz ob (.tup xs)) ∧ ob.cls = .type "tuple" ∧ ob.dict = none) ∧ te σ H1 fun y H2 => r x [y] H2 Q
theorem pe_tix {id : String} {name : Str} {o e : Expr} {to te : TE} {r : V → List V → Hp → VK → Prop} {apos cpos : Pos} (slot : Slot "tuple" name id) (hty : typeOf (.builtin id) = pure (.type "method_descriptor")) (hm : MtR X id r) (ho : PE X o to) (he : PE X e te)
    (hbase : attributeBase o name X.env (eval o X.env) = eval o X.env := by rfl)
    (hfew : ((backTo cpos (starEach [e] X.env)).all (fun x => !x.1) && (backToKw cpos (keywordEach [] X.env)).all (fun x => x.1.isSome) && decide ([e].length + ([] : List Keyword).length + (if ([] : List Keyword).isEmpty then 0 else 1) < 30)) = true := by rfl)
    (hline : (apos.endLine == cpos.line) = true := by rfl) (hs : starEach [e] X.env = (false, eval e X.env) :: starEach [] X.env := by rfl) (hp : (backTo cpos (starEach [] X.env)).any (·.1) = false := by rfl) : PE X (.Call (.Attribute o name apos) [e] [] cpos) (tTix r to te) := by
  refine ⟨fun pins s σ H Q I h => ?_⟩
  refine wpAny_Call_method_late hbase hfew hline rfl (thn (ho.run pins s σ H _ I h) fun v s1 hh => ?_)
  obtain ⟨x, H1, I1, r1, ⟨p, ob, xs, rfl, hf, hc, hd⟩, q1⟩ := hh
  obtain rfl : v = Value.ref p := r1
  obtain ⟨g1, _⟩ : s1.heap.get? p = some ob ∧ _ := I1.hok p _ hf
  refine ⟨"tuple", id, PySem.F.plainAttrs_tuple, slot, hty, ⟨ob, g1, hc⟩, fun a ea => by cases ea; exact ⟨ob, g1, hd⟩, ?_⟩
  have hA := (pa_cons he pa_nil hs).run cpos pins s1 σ H1 (fun vs H2 => match vs with | [y] => r (.ref p) [y] H2 Q | _ => False) I1 q1
  rw [hs] at hA ⊢
  refine Calls.callWith_builtin (by show (false || (backTo cpos (starEach [] X.env)).any (·.1)) = false; rw [hp] <;> rfl) (Calls.evalArgs_plain ?_)
  refine thn hA fun us s2 hh => ?_
  obtain ⟨vs, H2, I2, r2, q2⟩ := hh
  match vs, r2, q2 with
  | [y], r2, q2 => exact hm pins s2 σ H2 (.ref p) [y] (.ref p) us Q I2 rfl r2 q2
end
end J
namespace J
open PySem PySem.Spec
open PyProof.Rows L2
section
variable {X : Cx} {W : WX} {ρ ρ1 ρ2 : REnv} {μ μ1 μ2 μ3 : Sto} {a b c e o : Expr} {es tgs : List Expr} {pos p2 p apos cpos : Pos} {ds out : List PyData} {d : PyData} {i j : Int} {s t n : Str} {tg : Expr} {P : Out → Prop} {nn : Nat} {rest : List Stmt}
theorem scr_at {ns : List Int} {i : Nat} {v : Int} (h : ns[i]? = some v) : atI (ns.map V.int) (i : Int) = some (V.int v) := at_nat (by rw [List.getElem?_map, h]; rfl)
theorem ixScr {ns : List Int} {i : Nat} {v : Int} (ha : EV X a ρ μ (.scr ns) μ1) (hb : EV X b ρ μ1 (Ii (i : Int)) μ2) (h : ns[i]? = some v) (hs : PlainIx b := by exact fun _ _ => rfl) : EV X (.Subscript a b pos) ρ μ (Ii v) μ2 := by
  refine EV.ix ix_list ha hb (fun w H x y m h1 h2 Q q => ?_) hs
  obtain ⟨p, rfl, hsq⟩ := h1
  cases h2
  exact ⟨p, _, _, _, rfl, rfl, Same.seq dl_same hsq, scr_at h, q _ _ m .refl (Dq.int _)⟩
noncomputable def GW (X : Cx) (tg : Expr) (d : PyData) (ρ : REnv) (μ : Sto) (ρ' : REnv) (μ' : Sto) : Prop :=
  ∀ w σ H v, Mem X.K H w μ → Sl X.K H w σ ρ → Val X.K H w v (.dat d) → ∀ Q : L2.St → Hp → Prop, (∀ σ' H', Mem X.K H' w μ' → Fr w.α H H' → Sl X.K H' w σ' ρ' → Q σ' H') → GX X tg v σ H Q
noncomputable def GsW (X : Cx) (tg : List Expr) (ds : List PyData) (ρ : REnv) (μ : Sto) (ρ' : REnv) (μ' : Sto) : Prop :=
  ∀ w σ H vs, Mem X.K H w μ → Sl X.K H w σ ρ → DqAll (dl H w.all) vs ds → ∀ Q : L2.St → Hp → Prop, (∀ σ' H', Mem X.K H' w μ' → Fr w.α H H' → Sl X.K H' w σ' ρ' → Q σ' H') → GsX X tg vs σ H Q
theorem GW.name {i : Nat} (hN : X.N.Nodup) (hi : X.N[i]? = some n) (hx : Loc X.env.scope n) (hf : X.fn n = true ∨ X.env.scope.names.lookup n = some .local := by first | exact .inl rfl | exact .inr rfl | assumption) : GW X (.Name n pos) d ρ μ (ρ.set i (some (.dat d))) μ := by
  intro w σ H v m s h Q q
  exact ⟨_, pg_name hN hi hx hf, q _ _ m .refl (s.set h)⟩
theorem GW.sub {k j : Nat} (ho : EV X o ρ μ (.ptr k) μ) (hi : EV X e ρ μ (Ii (j : Int)) μ) (hk : μ[k]? = some ds) (hj : j < ds.length)
    (hsub : ∀ v, assign (.Subscript o e pos) X.env v = (do
      let ov ← holding [v] (eval o X.env)
      let iv ← holding [v, ov] (eval e X.env)
      standAt pos
      holding [v, ov, iv] (setItem ov iv v)
      release [v, ov, iv] []) := by intro _; rfl) : GW X (.Subscript o e pos) d ρ μ ρ (μ.set k (ds.set j d)) := by
  intro w σ H v m s h Q q
  refine ⟨_, pg_sub (p_ex (e := o)) (p_ex (e := e)) set_list hsub, ?_⟩
  refine ho w σ H m s _ fun u H1 m1 f1 h1 => ?_
  obtain ⟨a0, ha0, rfl⟩ := h1
  refine hi w σ H1 m1 (s.fr f1) _ fun u H2 m2 f2 h2 => ?_
  cases h2
  obtain ⟨vs, e2, hd⟩ := m2.cell k a0 ds ha0 hk
  have hl := dqAll_len hd
  have hv2 : Dq (dl H2 w.all) v d := (h.fr f1).fr f2
  have hset : ∀ (vs : List V) (ds : List PyData) (j : Nat), DqAll (dl H2 w.all) vs ds → DqAll (dl H2 w.all) (vs.set j v) (ds.set j d) := by
    intro vs
    induction vs with
    | nil => intro ds j h; cases h; exact .nil
    | cons x xs ih =>
      intro ds j h
      cases h with
      | cons h1 h3 =>
        cases j with
        | zero => exact .cons hv2 h3
        | succ j => exact .cons h1 (ih _ j h3)
  obtain ⟨mm, ff⟩ := m2.put (ds := ds.set j d) (vs := vs.set j v) ha0 (hset vs ds j hd)
  refine ⟨a0, vs, (j : Int), j, rfl, rfl, e2, ?_, q σ _ mm ((f1.trans f2).trans ff) (((s.fr f1).fr f2).fr ff)⟩
  unfold ixN
  rw [if_pos (by omega), if_pos (by omega)]
  simp
theorem GsW.nil : GsW X [] [] ρ μ ρ μ := by
  intro w σ H vs m s h Q q
  cases h
  exact ⟨_, pgs_nil, rfl, q σ H m .refl s⟩
theorem GsW.cons (h1 : GW X tg d ρ μ ρ1 μ1) (h2 : GsW X tgs ds ρ1 μ1 ρ2 μ2) (ha : (assignEach (tg :: tgs) X.env).map (·.2) = assign tg X.env :: (assignEach tgs X.env).map (·.2) := by rfl) : GsW X (tg :: tgs) (d :: ds) ρ μ ρ2 μ2 := by
  intro w σ H vs m s h Q q
  cases h with
  | cons a b =>
    refine ⟨_, pgs_cons (p_gx (e := tg)) (p_gsx (e := tgs)) ha, ?_⟩
    refine ⟨_, _, rfl, h1 w σ H _ m s a _ fun σ1 H1 m1 f1 s1 => ?_⟩
    exact h2 w σ1 H1 _ m1 s1 (dqAll_mono f1.all _ _ b) Q fun σ2 H2 m2 f2 s2 => q σ2 H2 m2 (f1.trans f2) s2
theorem GW.tup {k : Nat} (h : GsW X tgs ds ρ μ ρ1 μ1) (hc : X.calm = true := by rfl) (hn : (assignEach tgs X.env).length = ds.length := by rfl) (hst : (assignEach tgs X.env).findIdx? (·.1) = none := by rfl) : GW X (.Tuple tgs k pos) (.tuple ds) ρ μ ρ1 μ1 := by
  intro w σ H v m s hv Q q
  cases hv with
  | tup ha hd =>
    refine ⟨_, pg_tup hc (p_gsx (e := tgs)) hn hst, ?_⟩
    exact ⟨_, _, rfl, SqT.of (dl_some ha).2, dqAll_len hd, h w σ H _ m s hd Q q⟩
theorem ST.asgW (h : EV X e ρ μ (.dat d) μ1) (hg : GW X tg d ρ μ1 ρ1 μ2) (hr : ST X W nn rest ρ1 μ2 P) (hs : swapsWithSole [tg] e pos.line X.env = pure false := by rfl) (hw : swappedStores [tg] e X.env = pure none := by rfl)
    (h1 : (assignEach [tg] X.env).map (·.2) = [assign tg X.env] := by rfl) : ST X W nn (.Assign [tg] e pos :: rest) ρ μ P := by
  intro w σ H D hn m s q
  refine ⟨_, pss_cons (ps_asg (p_ex (e := e)) (p_gx (e := tg)) hs hw h1) p_sx, ?_⟩
  refine h w σ H m s _ fun v H1 m1 f1 hv => ?_
  refine hg w σ H1 v m1 (s.fr f1) hv _ fun σ2 H2 m2 f2 s2 => ?_
  exact hr w σ2 H2 D hn m2 s2 fun o ho => (q o ho).step hn (f1.trans f2)
end
end J
namespace J
open PySem PySem.Spec L2
noncomputable def top (i : Nat) : Stmt := PySem.Challenge.pw_joinrounds_k27_words_of_many_letters.main.body.getD i (.Pass ⟨0, 0, 0, 0⟩)
noncomputable abbrev sTooLongInit : Stmt := inClass (top 13) 0
noncomputable abbrev sIsInteger : Stmt := top 31
noncomputable abbrev sIsName : Stmt := top 32
noncomputable abbrev sIsPiece : Stmt := top 33
noncomputable abbrev sIsGoal : Stmt := top 34
noncomputable abbrev sLastOf : Stmt := top 35
noncomputable abbrev sGoalSpan : Stmt := top 36
noncomputable abbrev sReadDigit : Stmt := top 37
noncomputable abbrev sReadClass : Stmt := top 38
noncomputable abbrev sReadWay : Stmt := top 39
noncomputable abbrev sPutClause : Stmt := top 40
noncomputable abbrev sReadClause : Stmt := top 41
noncomputable abbrev sSharePlace : Stmt := top 42
noncomputable abbrev sFitTogether : Stmt := top 43
noncomputable abbrev sReadRound : Stmt := top 44
noncomputable abbrev sCanStand : Stmt := top 45
noncomputable abbrev sAreRounds : Stmt := top 47
noncomputable abbrev sIsPlan : Stmt := top 48
noncomputable abbrev sCheckPlans : Stmt := top 49
noncomputable abbrev sInit : Stmt := inClass (top 53) 0
noncomputable abbrev sPlans : Stmt := inClass (top 53) 2
noncomputable abbrev sNames : Stmt := inClass (top 53) 3
noncomputable abbrev sFindPlan : Stmt := inClass (top 53) 4
noncomputable abbrev sPlan : Stmt := inClass (top 53) 5
noncomputable abbrev sCheckBook : Stmt := top 54
noncomputable abbrev sPlanOf : Stmt := top 55
noncomputable abbrev sReadBook : Stmt := top 56
noncomputable abbrev sCheckPieces : Stmt := top 58
noncomputable abbrev sGoalTexts : Stmt := top 59
noncomputable abbrev sNextText : Stmt := top 60
noncomputable abbrev sCheckLengths : Stmt := top 61
noncomputable abbrev sNextTexts : Stmt := top 62
noncomputable abbrev sLedTexts : Stmt := top 63
noncomputable abbrev sRowInit : Stmt := inClass (top 64) 0
noncomputable abbrev sRowWords : Stmt := inClass (top 64) 3
noncomputable abbrev sRowDone : Stmt := inClass (top 64) 4
noncomputable abbrev sRowIsOver : Stmt := inClass (top 64) 5
noncomputable abbrev sRowAfter : Stmt := inClass (top 64) 7
noncomputable abbrev sRowLast : Stmt := inClass (top 64) 8
noncomputable abbrev sLCell : Stmt := top 66
noncomputable abbrev sLPurse : Stmt := top 67
noncomputable abbrev sLDraw : Stmt := top 68
noncomputable abbrev sLPick : Stmt := top 69
noncomputable abbrev sLTag : Stmt := top 70
noncomputable abbrev sLTags : Stmt := top 71
noncomputable abbrev sLGoal : Stmt := top 72
noncomputable abbrev sLOvers : Stmt := top 73
noncomputable abbrev sLClause : Stmt := top 74
noncomputable abbrev sLLine : Stmt := top 75
noncomputable abbrev sLAim : Stmt := top 76
noncomputable abbrev sLTold : Stmt := top 77
noncomputable abbrev sLError : Stmt := top 78
noncomputable abbrev sLCaught : Stmt := top 79
noncomputable abbrev sLPieces : Stmt := top 80
noncomputable abbrev sLDue : Stmt := top 81
noncomputable abbrev sLSpot : Stmt := top 82
noncomputable abbrev sLNoted : Stmt := top 83
noncomputable abbrev sLRoundLed : Stmt := top 84
noncomputable abbrev sLCalled : Stmt := top 85
noncomputable abbrev sLRowsLed : Stmt := top 86
noncomputable abbrev sLCall : Stmt := top 87
noncomputable abbrev sLByHand : Stmt := top 88
noncomputable abbrev sLRight : Stmt := top 89
noncomputable abbrev sLCleared : Stmt := top 90
noncomputable abbrev sLaw : Stmt := top 91
end J
namespace J
open PySem PySem.Spec
open PyProof.Rows L2
structure Gf (mg : Str → Option Value) : Prop where
  bt : Bt mg
  longest : ∃ t, mg "LONGEST_NAME" = some (.int 8 t)
  letters : ∃ t, mg "LETTERS" = some (.str M.letters t)
  digits : ∃ t, mg "DIGITS" = some (.str M.digits t)
  mlast : ∃ t, mg "MOST_LAST" = some (.int 4 t)
  mfar : ∃ t, mg "MOST_FAR" = some (.int 4 t)
  mclasses : ∃ t, mg "MOST_CLASSES" = some (.int 3 t)
  mclauses : ∃ t, mg "MOST_CLAUSES" = some (.int 3 t)
  mrounds : ∃ t, mg "MOST_ROUNDS" = some (.int 5 t)
  mplans : ∃ t, mg "MOST_PLANS" = some (.int 4 t)
  mbase : ∃ t, mg "MOST_BASE" = some (.int 4 t)
section
variable {w : World} {P : Program} {K : PySem.W.Frag} {base : Heap} {mg : Str → Option Value}
theorem scIsInteger : FnScope ["value"] ["value"] (defScope sIsInteger) := ⟨rfl, rfl, rfl, by decide +kernel, rfl, by decide +kernel, by decide +kernel⟩
theorem cIsInteger (T : Gf mg) (D : Df K mg "is_integer" sIsInteger) : Cal P w K mg base "is_integer" 1 ["value"] (fn1 (fun d => isObj d = false) fun d => .bool (M.isInteger d)) := by
  refine D.cal scIsInteger (fun _ _ _ _ _ _ us hl => len1 us hl fun _ => rfl) (by decide) (fun rs μ r μ' h => by obtain ⟨d, _, _, _, rfl⟩ := h; rfl) fun f cdv A outer s H E hr rs μ r μ' hC => ?_
  obtain ⟨d, rfl, hob, rfl, rfl⟩ := hC
  refine ST.retP (EV.andD (isI T.bt (nm 0) (kit_int d) (by decide +kernel) T.bt.int) fun _ => EV.one (EV.not (isI T.bt (nm 0) (kit_bool d) (by decide +kernel) T.bt.bool))) ?_ (by simp)
  cases d <;> rfl
theorem scIsName : FnScope ["value", "sign"] ["value"] (defScope sIsName) := ⟨rfl, rfl, rfl, by decide +kernel, rfl, by decide +kernel, by decide +kernel⟩
theorem cIsName (T : Gf mg) (D : Df K mg "is_name" sIsName) : Cal P w K mg base "is_name" 1 ["value"] (fn1 (fun d => isObj d = false ∧ ∀ s, d = .str s → s.length ≤ 1000000) fun d => .bool (M.isName d)) := by
  refine D.cal scIsName (fun _ _ _ _ _ _ us hl => len1 us hl fun _ => rfl) (by decide) (fun rs μ r μ' h => by obtain ⟨d, _, _, _, rfl⟩ := h; rfl) fun f cdv A outer s H E hr rs μ r μ' hC => ?_
  obtain ⟨d, rfl, ⟨hob, hs⟩, rfl, rfl⟩ := hC
  cases hd : isStrL d with
  | false =>
    refine ST.ifYes (WV.tv (WV.orT (TV.not (TV.val (isI T.bt (nm 0) (kit_str d) (by decide +kernel) T.bt.str))) (by rw [hd]; rfl))) rfl ?_
    refine ST.retP EV.bl ?_ (by simp)
    cases d <;> first | rfl | cases hd
  | true =>
    obtain ⟨s, rfl⟩ : ∃ s, d = .str s := by cases d <;> first | exact ⟨_, rfl⟩ | cases hd
    have hl := sz (hs s rfl)
    refine ST.ifR (WV.tv (WV.orF (TV.not (TV.val (isI T.bt (nm 0) (kit_str _) (by decide +kernel) T.bt.str))) (WV.or1 (TV.not (tChainLe op_le op_le EV.int (bLenS T.bt (nm 0) hl) (gI T.longest)))))) (fun hk => ?_) (fun hk => ?_)
    · refine ST.retP EV.bl ?_ (by simp)
      have : M.nameOk s = false := by
        unfold M.nameOk
        simp only [Bool.not_eq_true', ] at hk
        rw [hk, Bool.false_and]
      exact congrArg (fun b => Bb b) this.symm
    · simp only [Bool.not_eq_false', Bool.and_eq_true, decide_eq_true_eq] at hk
      obtain ⟨c, cs, hc⟩ : ∃ c cs, s.cps.toList = c :: cs := by
        cases q : s.cps.toList with
        | nil =>
          have : s.length = 0 := by show s.cps.size = 0; rw [← Array.length_toList, q]; rfl
          omega
        | cons c cs => exact ⟨c, cs, rfl⟩
      have h0 : atI s.cps.toList 0 = some c := at_nat (i := 0) (by rw [hc]; rfl)
      have hsz : s.length = s.cps.size := rfl
      refine ST.retP (EV.andD (cInSign (ixS (nm 0) EV.int hl h0) (gS T.letters)) fun _ => EV.one (bAll (bs := s.cps.toList.map M.signOk) T.bt rfl (EV.eq (LCV.evf (own := [("sign", 1)]) (LCV.map (sgn1 M.signOk) (IV.str (nm 0)) (fun d hd => ?_) (by simp [strD]; omega)) rfl scIsName.nd (blkOk_by (N := ["value", "sign"]) (sc := defScope sIsName) (by decide +kernel))).ev ?_))) ?_ (by simp)
      · obtain ⟨c, _, rfl⟩ := List.mem_map.mp hd
        exact ⟨_, fun _ _ _ _ _ => GV.name (i := 1) scIsName.nd rfl (Or.inl rfl) (by simp), fun _ _ _ _ _ => cInSign (nm 1) (oAddS (gS T.letters) (gS T.digits) (by decide))⟩
      · exact congrArg Ls (sgn1_map _ _)
      · have : M.nameOk s = (decide (c ∈ M.letters.cps.toList) && (s.cps.toList.map M.signOk).all id) := by
          unfold M.nameOk
          rw [hc]
          simp [hk.1, hk.2, List.all_map]
        exact congrArg (fun b => Bb b) this.symm
theorem scIsGoal : FnScope ["value", "lasts", "many"] ["value"] (defScope sIsGoal) := ⟨rfl, rfl, rfl, by decide +kernel, rfl, by decide +kernel, by decide +kernel⟩
noncomputable def lastD : PyData → PyData
  | .int i => .str (catS Str.empty ["last ", M.strI i])
  | d => d
theorem lasts_eq : (rngD 1 4).map lastD = M.lasts := by
  show [lastD (.int 1), lastD (.int 2), lastD (.int 3), lastD (.int 4)] = _
  have h : ∀ i : _root_.Fin 5, catS Str.empty ["last ", M.strI (i.val : Int)] = ([("last 0" : Str), "last 1", "last 2", "last 3", "last 4"][i.val]) := by decide +kernel
  have h1 := h 1
  have h2 := h 2
  have h3 := h 3
  have h4 := h 4
  show [PyData.str _, PyData.str _, PyData.str _, PyData.str _] = _
  exact congr (congrArg List.cons (congrArg PyData.str h1)) (congr (congrArg List.cons (congrArg PyData.str h2)) (congr (congrArg List.cons (congrArg PyData.str h3)) (congr (congrArg List.cons (congrArg PyData.str h4)) rfl)))
theorem last_fit (i : Int) (h : i = 1 ∨ i = 2 ∨ i = 3 ∨ i = 4) : fitS Str.empty ["last ", M.strI i] := by
  rcases h with rfl | rfl | rfl | rfl <;> exact ⟨by decide +kernel, by decide +kernel, trivial⟩
theorem rng_mem {lo : Int} {n : Nat} {d : PyData} (h : d ∈ rngD lo n) : ∃ k : Nat, k < n ∧ d = .int (lo + k) := by
  obtain ⟨k, hk, rfl⟩ := List.mem_map.mp h
  exact ⟨k, List.mem_range.mp hk, rfl⟩
theorem cIsGoal (T : Gf mg) (D : Df K mg "is_goal" sIsGoal) : Cal P w K mg base "is_goal" 1 ["value"] (fn1 (fun d => isObj d = false) fun d => .bool (M.isGoal d)) := by
  refine D.cal scIsGoal (fun _ _ _ _ _ _ us hl => len1 us hl fun _ => rfl) (by decide) (fun rs μ r μ' h => by obtain ⟨d, _, _, _, rfl⟩ := h; rfl) fun f cdv A outer s H E hr rs μ r μ' hC => ?_
  obtain ⟨d, rfl, hob, rfl, rfl⟩ := hC
  refine ST.lc (i := 1) (own := [("many", 2)]) (LCV.map lastD (IV.rng2 EV.int (oAdd (gI T.mlast) EV.int) (by decide) T.bt.range) (fun d hd => ?_) (by decide)) rfl scIsGoal.nd rfl rfl (blkOk_by (N := ["value", "lasts", "many"]) (sc := defScope sIsGoal) (by decide +kernel)) ?_ (sw_true rfl rfl rfl (by decide +kernel))
  · obtain ⟨k, hk, rfl⟩ := rng_mem hd
    have hk4 : k < 4 := hk
    exact ⟨_, fun _ _ _ _ _ => GV.name (i := 2) scIsGoal.nd rfl (Or.inl rfl) (by simp), fun _ _ _ _ _ => EV.joined (JV.cons EV.str (JV.cons (EV.fmtI (nm 2) (log_small (by omega))) JV.nil)) (last_fit _ (by omega))⟩
  · have e : (rngD 1 ((4 : Int) + 1 - 1).toNat).map lastD = M.lasts := lasts_eq
    rw [e]
    cases hd : isStrL d with
    | false =>
      refine ST.retP (EV.andF (isI T.bt (nm 0) (kit_str d) (by decide +kernel) T.bt.str) hd) ?_ (by simp)
      cases d <;> first | rfl | cases hd
    | true =>
      obtain ⟨s, rfl⟩ : ∃ s, d = .str s := by cases d <;> first | exact ⟨_, rfl⟩ | cases hd
      exact ST.retP (EV.andT (isI T.bt (nm 0) (kit_str _) (by decide +kernel) T.bt.str) (EV.one (cInL (nm 0) (oCat (EV.lst (ds := [.str "all", .str "before"]) (AV.cons EV.str (AV.cons EV.str AV.nil))) (nm 1) (by decide)) rfl rfl))) rfl (by simp)
theorem scReadDigit : FnScope ["word", "low", "high", "number"] ["word", "low", "high"] (defScope sReadDigit) := ⟨rfl, rfl, rfl, by decide +kernel, rfl, by decide +kernel, by decide +kernel⟩
noncomputable def digF : PyData → PyData
  | .int i => .str (M.strI i)
  | d => d
theorem digList_eq (lo hi : Int) : (rngD lo (hi + 1 - lo).toNat).map digF = M.digList lo hi := by
  unfold M.digList
  refine List.map_congr_left fun d hd => ?_
  obtain ⟨k, _, rfl⟩ := rng_mem hd
  rfl
theorem digList_flat (lo hi : Int) : (M.digList lo hi).all flatD = true := by
  rw [← digList_eq, List.all_map, List.all_eq_true]
  intro d hd
  obtain ⟨k, _, rfl⟩ := rng_mem hd
  rfl
noncomputable def cnReadDigit : Con := fun rs μ r μ' => ∃ s lo hi, rs = [Ss s, Ii lo, Ii hi] ∧ (0 ≤ lo ∧ hi ≤ 9 ∧ lo ≤ 9 ∧ -5 ≤ hi) ∧ r = .dat (M.readDigit s lo hi) ∧ μ' = μ
theorem cReadDigit (T : Gf mg) (D : Df K mg "read_digit" sReadDigit) : Cal P w K mg base "read_digit" 1 ["word", "low", "high"] cnReadDigit := by
  refine D.cal scReadDigit (fun _ _ _ _ _ _ us hl => len3 us hl fun _ _ _ => rfl) (by decide) (fun rs μ r μ' h => by obtain ⟨_, _, _, _, _, _, rfl⟩ := h; rfl) fun f cdv A outer s0 H E hr rs μ r μ' hC => ?_
  obtain ⟨s, lo, hi, rfl, ⟨h0, h9, h1, h2⟩, rfl, rfl⟩ := hC
  refine ST.iff (tInL (nm 0) (EV.eq (LCV.evf (own := [("number", 3)]) (LCV.map digF (IV.rng2 (nm 1) (oAdd (nm 2) EV.int) (by omega) T.bt.range) (fun d hd => ?_) (by rw [rngD_len]; omega)) rfl scReadDigit.nd (blkOk_by (N := ["word", "low", "high", "number"]) (sc := defScope sReadDigit) (by decide +kernel))).ev (congrArg Ls (digList_eq lo hi))) rfl (digList_flat lo hi)) (fun hk => ?_) (fun hk => ?_)
  · obtain ⟨k, hk, rfl⟩ := rng_mem hd
    exact ⟨_, fun _ _ _ _ _ => GV.name (i := 3) scReadDigit.nd rfl (Or.inl rfl) (by simp), fun _ _ _ _ _ => bStr T.bt (nm 3) (log_small (by omega))⟩
  · obtain ⟨i, hi9, _, _, rfl⟩ := M.dig_in h0 h9 hk
    obtain ⟨e1, e2, e3⟩ := M.dig_text i hi9
    refine ST.ret (bIntS T.bt (nm 0) e1 (by rw [e3]; decide)) ⟨?_, by simp⟩
    show Ii (i : Int) = .dat (M.readDigit _ _ _)
    unfold M.readDigit
    rw [if_pos hk, e2]
  · refine ST.nil (ST.retP EV.non ?_ (by simp))
    show Nn = .dat (M.readDigit _ _ _)
    unfold M.readDigit
    rw [if_neg (by rw [hk]; exact Bool.false_ne_true)]
theorem scReadClass : FnScope ["words", "divisor", "remainder"] ["words"] (defScope sReadClass) := ⟨rfl, rfl, rfl, by decide +kernel, rfl, by decide +kernel, by decide +kernel⟩
noncomputable def cnReadClass : Con := fun rs μ r μ' => ∃ ws : List Str, rs = [Ls (ws.map .str)] ∧ True ∧ r = .dat (M.readClass ws) ∧ μ' = μ
open M (readDigit_cases)
theorem cReadClass (T : Gf mg) (C1 : Cal P w K mg base "read_digit" 1 ["word", "low", "high"] cnReadDigit) (D : Df K mg "read_class" sReadClass) : Cal P w K mg base "read_class" 2 ["words"] cnReadClass := by
  refine D.cal scReadClass (fun _ _ _ _ _ _ us hl => len1 us hl fun _ => rfl) (by decide) (fun rs μ r μ' h => by obtain ⟨_, _, _, _, rfl⟩ := h; rfl) fun f cdv A outer s0 H E hr rs μ r μ' hC => ?_
  obtain ⟨ws, rfl, _, rfl, rfl⟩ := hC
  by_cases h3 : ws.length = 3
  · obtain ⟨a, o, b, rfl⟩ : ∃ a o b, ws = [a, o, b] := by
      match ws, h3 with
      | [a, o, b], _ => exact ⟨a, o, b, rfl⟩
    refine ST.ifR (WV.tv (WV.orF (tNe (bLenL T.bt (nm 0)) EV.int) (WV.or1 (tNe (ixL (nm 0) EV.int (at_nat (i := 1) rfl)) EV.str)))) (fun hk => ?_) (fun hk => ?_)
    · refine ST.retP EV.non ?_ (by simp)
      have : (o == M.ofS) = false := by simpa [eqS, M.ofS] using hk
      show Nn = .dat (M.readClass [a, o, b])
      unfold M.readClass
      simp [this]
    · have ho : (o == M.ofS) = true := by simpa [eqS, M.ofS] using hk
      refine ST.set (i := 1) (EV.call C1 (by assumption) (AV.cons (ixL (nm 0) EV.int (at_nat (i := 2) rfl)) (AV.cons EV.int (AV.cons (gI T.mclasses) AV.nil))) ⟨b, 1, 3, rfl, by decide, rfl, rfl⟩) scReadClass.nd rfl (Or.inl rfl) ?_
      have hr : M.readClass [a, o, b] = (match M.readDigit b 1 3 with
        | .int d => (match M.readDigit a 0 (d - 1) with
          | .int e => .tuple [.int e, .int d]
          | _ => .none)
        | _ => .none) := by
        show (if (o == M.ofS) = true then _ else _) = _
        rw [if_pos ho]
        all_goals rfl
      rcases readDigit_cases b 1 3 (by decide) (by decide) with q | ⟨d, d1, d3, q⟩
      · rw [q] at hr
        rw [hr, q]
        exact ST.ifYes (tIsN (nm 1)) rfl (ST.retP EV.non rfl)
      · rw [q] at hr
        dsimp only at hr
        rw [hr, q]
        refine ST.ifNo (tIsN (nm 1)) rfl ?_
        refine ST.set (i := 2) (EV.call C1 (by assumption) (AV.cons (ixL (nm 0) EV.int (at_nat (i := 0) rfl)) (AV.cons EV.int (AV.cons (oSub (nm 1) EV.int) AV.nil))) ⟨a, 0, d - 1, rfl, by omega, rfl, rfl⟩) scReadClass.nd rfl (Or.inl rfl) ?_
        rcases readDigit_cases a 0 (d - 1) (by decide) (by omega) with q2 | ⟨x, x1, x3, q2⟩
        · rw [q2]
          exact ST.ifYes (tIsN (nm 2)) rfl (ST.retP EV.non rfl)
        · rw [q2]
          refine ST.ifNo (tIsN (nm 2)) rfl ?_
          exact ST.retP (EV.tup (ds := [.int x, .int d]) (AV.cons (nm 2) (AV.cons (nm 1) AV.nil))) rfl
  · refine ST.ifYes (WV.tv (WV.orT (tNe (bLenL T.bt (nm 0)) EV.int) (by simp [eqS]; omega))) rfl (ST.retP EV.non ?_ (by simp))
    show Nn = .dat (M.readClass ws)
    unfold M.readClass
    split
    · exact absurd rfl h3
    · rfl
theorem scReadWay : FnScope ["words", "far"] ["words"] (defScope sReadWay) := ⟨rfl, rfl, rfl, by decide +kernel, rfl, by decide +kernel, by decide +kernel⟩
noncomputable def cnReadWay : Con := fun rs μ r μ' => ∃ ws : List Str, rs = [Ls (ws.map .str)] ∧ True ∧ r = .dat (M.readWay ws) ∧ μ' = μ
theorem cReadWay (T : Gf mg) (C1 : Cal P w K mg base "read_digit" 1 ["word", "low", "high"] cnReadDigit) (D : Df K mg "read_way" sReadWay) : Cal P w K mg base "read_way" 2 ["words"] cnReadWay := by
  refine D.cal scReadWay (fun _ _ _ _ _ _ us hl => len1 us hl fun _ => rfl) (by decide) (fun rs μ r μ' h => by obtain ⟨_, _, _, _, rfl⟩ := h; rfl) fun f cdv A outer s0 H E hr rs μ r μ' hC => ?_
  obtain ⟨ws, rfl, _, rfl, rfl⟩ := hC
  by_cases h2 : ws.length = 2
  · obtain ⟨a, b, rfl⟩ : ∃ a b, ws = [a, b] := by
      match ws, h2 with
      | [a, b], _ => exact ⟨a, b, rfl⟩
    refine ST.ifR (WV.tv (WV.orF (tNe (bLenL T.bt (nm 0)) EV.int) (WV.or1 (tNiT (ixL (nm 0) EV.int (at_nat (i := 0) rfl)) (EV.tup (ds := [.str "left", .str "right"]) (AV.cons EV.str (AV.cons EV.str AV.nil))) rfl rfl)))) (fun hk => ?_) (fun hk => ?_)
    · refine ST.retP EV.non ?_
      have : inD (.str a) [.str "left", .str "right"] = false := by simpa using hk
      show Nn = .dat (M.readWay [a, b])
      show _ = Ent.dat (if inD (.str a) [.str "left", .str "right"] = true then _ else _)
      rw [this]
      rfl
    · have ha : inD (.str a) [.str "left", .str "right"] = true := by simpa using hk
      have hw : M.readWay [a, b] = (match M.readDigit b 1 4 with
        | .int n => if a == "right" then .int n else .int (-n)
        | _ => .none) := by
        show (if inD (.str a) [.str "left", .str "right"] = true then _ else _) = _
        rw [if_pos ha]
        all_goals rfl
      refine ST.set (i := 1) (EV.call C1 hr (AV.cons (ixL (nm 0) EV.int (at_nat (i := 1) rfl)) (AV.cons EV.int (AV.cons (gI T.mfar) AV.nil))) ⟨b, 1, 4, rfl, by decide, rfl, rfl⟩) scReadWay.nd rfl (Or.inl rfl) ?_
      rcases readDigit_cases b 1 4 (by decide) (by decide) with q | ⟨d, d1, d3, q⟩
      · rw [q] at hw
        rw [hw, q]
        exact ST.ifYes (WV.tv (WV.orT (tIsN (nm 1)))) rfl (ST.retP (nm 1) rfl)
      · rw [q] at hw
        dsimp only at hw
        rw [hw, q]
        refine ST.ifR (WV.tv (WV.orF (tIsN (nm 1)) (WV.or1 (tEq (ixL (nm 0) EV.int (at_nat (i := 0) rfl)) EV.str)))) (fun hk => ?_) (fun hk => ?_)
        · have hk' : (a == "right") = true := hk
          rw [if_pos hk']
          exact ST.retP (nm 1) rfl
        · have hk' : (a == "right") = false := hk
          rw [if_neg (by rw [hk']; exact Bool.false_ne_true)]
          exact ST.retP (EV.neg (nm 1)) rfl
  · refine ST.ifYes (WV.tv (WV.orT (tNe (bLenL T.bt (nm 0)) EV.int) (by simp [eqS]; omega))) rfl (ST.retP EV.non ?_)
    show Nn = .dat (M.readWay ws)
    unfold M.readWay
    split
    · exact absurd rfl h2
    · rfl
theorem scPutClause : FnScope ["deed", "place", "more", "remainder", "divisor"] ["deed", "place", "more"] (defScope sPutClause) := ⟨rfl, rfl, rfl, by decide +kernel, rfl, by decide +kernel, by decide +kernel⟩
noncomputable def cnPutClause : Con := fun rs μ r μ' => ∃ (s : Str) (pl mo : PyData), rs = [Ss s, .dat pl, .dat mo] ∧ (pl = .none ∨ ∃ e d, pl = .tuple [e, d]) ∧ r = .dat (M.putClause s pl mo) ∧ μ' = μ
theorem cPutClause (D : Df K mg "put_clause" sPutClause) : Cal P w K mg base "put_clause" 1 ["deed", "place", "more"] cnPutClause := by
  refine D.cal scPutClause (fun _ _ _ _ _ _ us hl => len3 us hl fun _ _ _ => rfl) (by decide) (fun rs μ r μ' h => by obtain ⟨_, _, _, _, _, _, rfl⟩ := h; rfl) fun f cdv A outer s0 H E hr rs μ r μ' hC => ?_
  obtain ⟨s, pl, mo, rfl, hp, rfl, rfl⟩ := hC
  rcases hp with rfl | ⟨e, d, rfl⟩
  · exact ST.ifYes (WV.tv (WV.orT (tIsN (nm 1)))) rfl (ST.retP EV.non rfl)
  · refine ST.ifR (WV.tv (WV.orF (tIsN (nm 1)) (WV.or1 (tIsN (nm 2))))) (fun hk => ?_) (fun hk => ?_)
    · refine ST.retP EV.non ?_
      show Nn = Ent.dat (if isNone mo = true then _ else _)
      rw [if_pos hk]
    · have hn : M.putClause s (.tuple [e, d]) mo = .tuple [.str s, e, d, mo] := by
        show (if isNone mo = true then _ else _) = _
        rw [hk]
        try rfl
      rw [hn]
      refine ST.asg (is := [3, 4]) (nm 1) (GV.tup (GsV.cons (GV.name (i := 3) scPutClause.nd rfl (Or.inl rfl) (by simp)) (GsV.cons (GV.name (i := 4) scPutClause.nd rfl (Or.inl rfl) (by simp)) GsV.nil))) ?_
      exact ST.retP (EV.tup (ds := [.str s, e, d, mo]) (AV.cons (nm 0) (AV.cons (nm 3) (AV.cons (nm 4) (AV.cons (nm 2) AV.nil))))) rfl
end
end J
namespace J
open PySem PySem.Spec
open PyProof.Rows L2
section
variable {w : World} {P : Program} {K : PySem.W.Frag} {base : Heap} {mg : Str → Option Value}
theorem scReadClause : FnScope ["text", "words", "deed"] ["text"] (defScope sReadClause) := ⟨rfl, rfl, rfl, by decide +kernel, rfl, by decide +kernel, by decide +kernel⟩
noncomputable def cnReadClause : Con := fun rs μ r μ' => ∃ s : Str, rs = [Ss s] ∧ s.length ≤ 1000000 ∧ r = .dat (M.readClause s) ∧ μ' = μ
theorem cReadClause (T : Gf mg) (C1 : Cal P w K mg base "read_class" 2 ["words"] cnReadClass) (C2 : Cal P w K mg base "read_way" 2 ["words"] cnReadWay) (C3 : Cal P w K mg base "put_clause" 1 ["deed", "place", "more"] cnPutClause)
    (C4 : Cal P w K mg base "is_name" 1 ["value"] (fn1 (fun d => isObj d = false ∧ ∀ s, d = .str s → s.length ≤ 1000000) fun d => .bool (M.isName d))) (D : Df K mg "read_clause" sReadClause) : Cal P w K mg base "read_clause" 3 ["text"] cnReadClause := by
  refine D.cal scReadClause (fun _ _ _ _ _ _ us hl => len1 us hl fun _ => rfl) (by decide) (fun rs μ r μ' h => by obtain ⟨_, _, _, _, rfl⟩ := h; rfl) fun f cdv A outer s0 H E hr rs μ r μ' hC => ?_
  obtain ⟨s, rfl, hs, rfl, rfl⟩ := hC
  have hr1 := hr.mono (show 1 ≤ 2 by decide)
  obtain ⟨deed, ws, hsp⟩ := M.split_ne s " " (by decide +kernel) (by decide +kernel)
  refine ST.set (i := 1) (EV.split (nm 0) EV.str (by decide +kernel) (sz2 hs)) scReadClause.nd rfl (Or.inl rfl) ?_
  rw [hsp]
  have hrc : M.readClause s = (if inD (.str deed) [.str "join", .str "take"] then M.putClause deed (M.readClass (M.cutL (deed :: ws) (some 1) (some 4))) (M.readWay (M.cutL (deed :: ws) (some 4) none))
    else if deed == "clear" then M.putClause deed (M.readClass (M.cutL (deed :: ws) (some 1) none)) (.int 0)
    else if deed == "call" then (match deed :: ws with
      | [a, n, o, x, y, z] => if M.nameOk n && o == "on" then M.putClause deed (M.readClass (M.cutL [a, n, o, x, y, z] (some 3) none)) (.str n) else .none
      | _ => .none)
    else .none) := by
    unfold M.readClause
    rw [hsp]
    all_goals rfl
  rw [hrc]
  have hcl : ∀ vs : List Str, M.readClass vs = .none ∨ ∃ e d, M.readClass vs = .tuple [e, d] := fun vs => (M.readClass_cases vs).imp id fun ⟨e, d, _, _, _, h⟩ => ⟨_, _, h⟩
  refine ST.set (i := 2) (ixL (nm 1) EV.int (at_nat (i := 0) rfl)) scReadClause.nd rfl (Or.inl rfl) ?_
  refine ST.ifR (tInT (nm 2) (EV.tup (ds := [.str "join", .str "take"]) (AV.cons EV.str (AV.cons EV.str AV.nil))) rfl rfl) (fun hk => ?_) (fun hk => ?_)
  · rw [if_pos hk]
    exact ST.retP (EV.call C3 hr1 (AV.cons (nm 2) (AV.cons (EV.call C1 hr (AV.cons (EV.slL (nm 1) (PartV.some EV.int) (PartV.some EV.int)) AV.nil) ⟨M.cutL (deed :: ws) (some 1) (some 4), congrArg (fun z => [Ls z]) (M.cutD_map PyData.str (deed :: ws) _ _), trivial, rfl, rfl⟩)
      (AV.cons (EV.call C2 hr (AV.cons (EV.slL (nm 1) (PartV.some EV.int) PartV.none) AV.nil) ⟨M.cutL (deed :: ws) (some 4) none, congrArg (fun z => [Ls z]) (M.cutD_map PyData.str (deed :: ws) _ _), trivial, rfl, rfl⟩) AV.nil))) ⟨deed, _, _, rfl, hcl _, rfl, rfl⟩) rfl
  · rw [if_neg (by rw [hk]; exact Bool.false_ne_true)]
    refine ST.ifR (tEq (nm 2) EV.str) (fun hk => ?_) (fun hk => ?_)
    · have hk' : (deed == "clear") = true := hk
      rw [if_pos hk']
      exact ST.retP (EV.call C3 hr1 (AV.cons (nm 2) (AV.cons (EV.call C1 hr (AV.cons (EV.slL (nm 1) (PartV.some EV.int) PartV.none) AV.nil) ⟨M.cutL (deed :: ws) (some 1) none, congrArg (fun z => [Ls z]) (M.cutD_map PyData.str (deed :: ws) _ _), trivial, rfl, rfl⟩)
        (AV.cons EV.int AV.nil))) ⟨deed, _, _, rfl, hcl _, rfl, rfl⟩) rfl
    · have hk' : (deed == "clear") = false := hk
      rw [if_neg (by rw [hk']; exact Bool.false_ne_true)]
      cases hc : (deed == "call") with
      | false =>
        rw [if_neg (by simp)]
        refine ST.ifNo (WV.tv (WV.andF (tEq (nm 2) EV.str) (by exact hc))) rfl (ST.retP EV.non rfl)
      | true =>
        rw [if_pos rfl]
        by_cases h6 : (deed :: ws).length = 6
        · obtain ⟨n, o, x, y, z, rfl⟩ : ∃ n o x y z, ws = [n, o, x, y, z] := by
            match ws, h6 with
            | [n, o, x, y, z], _ => exact ⟨n, o, x, y, z, rfl⟩
          have hn : n.length ≤ 1000000 := Nat.le_trans (M.split_len s " " (by decide +kernel) (by decide +kernel) n (by rw [hsp]; simp)) hs
          show ST _ _ _ _ _ _ (PostR (.dat (if (M.nameOk n && o == "on") = true then _ else _)) _)
          refine ST.ifR (WV.tv (WV.andT (tEq (nm 2) EV.str) (WV.andT (tEq (bLenL T.bt (nm 1)) EV.int) (WV.andP (TV.val (EV.call C4 hr1 (AV.cons (ixL (nm 1) EV.int (at_nat (i := 1) rfl)) AV.nil) ⟨_, rfl, ⟨rfl, fun s h => by cases h; exact hn⟩, rfl, rfl⟩)) (WV.and1 (tEq (ixL (nm 1) EV.int (at_nat (i := 2) rfl)) EV.str)))) (by exact hc))) (fun hk => ?_) (fun hk => ?_)
          · have hk2 : (M.nameOk n && o == "on") = true := hk
            rw [if_pos hk2]
            exact ST.retP (EV.call C3 hr1 (AV.cons (nm 2) (AV.cons (EV.call C1 hr (AV.cons (EV.slL (nm 1) (PartV.some EV.int) PartV.none) AV.nil) ⟨M.cutL (deed :: [n, o, x, y, z]) (some 3) none, congrArg (fun z => [Ls z]) (M.cutD_map PyData.str (deed :: [n, o, x, y, z]) _ _), trivial, rfl, rfl⟩)
              (AV.cons (ixL (nm 1) EV.int (at_nat (i := 1) rfl)) AV.nil))) ⟨deed, _, _, rfl, hcl _, rfl, rfl⟩) rfl
          · have hk2 : (M.nameOk n && o == "on") = false := hk
            rw [if_neg (by rw [hk2]; exact Bool.false_ne_true)]
            exact ST.retP EV.non rfl
        · refine ST.ifNo (WV.tv (WV.andT (tEq (nm 2) EV.str) (WV.andF (tEq (bLenL T.bt (nm 1)) EV.int) (by simp [eqS] at h6 ⊢; omega)) (by exact hc))) rfl (ST.retP EV.non ?_)
          split
          · rename_i heq
            exact absurd (by rw [heq]; rfl) h6
          · rfl
end
end J
namespace J
open PySem PySem.Spec
open PyProof.Rows L2
section
variable {w : World} {P : Program} {K : PySem.W.Frag} {base : Heap} {mg : Str → Option Value}
noncomputable abbrev nSP : List Str := ["clause", "other", "remainder", "divisor", "other_remainder", "other_divisor", "place"]
theorem scSharePlace : FnScope nSP ["clause", "other"] (defScope sSharePlace) := ⟨rfl, rfl, rfl, by decide +kernel, rfl, by decide +kernel, by decide +kernel⟩
noncomputable def cnSharePlace : Con := fun rs μ r μ' => ∃ c o, rs = [.dat c, .dat o] ∧ (M.WfC c ∧ M.WfC o) ∧ r = Bb (M.share c o) ∧ μ' = μ
theorem cSharePlace (T : Gf mg) (D : Df K mg "share_place" sSharePlace) : Cal P w K mg base "share_place" 1 ["clause", "other"] cnSharePlace := by
  refine D.cal scSharePlace (fun _ _ _ _ _ _ us hl => len2 us hl fun _ _ => rfl) (by decide) (fun rs μ r μ' h => by obtain ⟨_, _, _, _, _, rfl⟩ := h; rfl) fun f cdv A outer s0 H E hr rs μ r μ' hC => ?_
  obtain ⟨c, o, rfl, ⟨hc, ho⟩, rfl, rfl⟩ := hC
  obtain ⟨n1, e, d, m1, rfl, e0, ed, d3, _, _⟩ := hc
  obtain ⟨n2, e2, d2, m2, rfl, e20, ed2, d23, _, _⟩ := ho
  refine ST.asg (is := [2, 3]) (EV.eq (EV.slT (nm 0) (PartV.some EV.int) (PartV.some EV.int)) (show Tp _ = .dat (.tuple [.int e, .int d]) from rfl)) (GV.tup (GsV.cons (GV.name (i := 2) scSharePlace.nd rfl (by first | exact Or.inl rfl | exact Or.inr rfl) (by simp)) (GsV.cons (GV.name (i := 3) scSharePlace.nd rfl (by first | exact Or.inl rfl | exact Or.inr rfl) (by simp)) GsV.nil))) ?_
  refine ST.asg (is := [4, 5]) (EV.eq (EV.slT (nm 1) (PartV.some EV.int) (PartV.some EV.int)) (show Tp _ = .dat (.tuple [.int e2, .int d2]) from rfl)) (GV.tup (GsV.cons (GV.name (i := 4) scSharePlace.nd rfl (by first | exact Or.inl rfl | exact Or.inr rfl) (by simp)) (GsV.cons (GV.name (i := 5) scSharePlace.nd rfl (by first | exact Or.inl rfl | exact Or.inr rfl) (by simp)) GsV.nil))) ?_
  have h9 : 0 < d * d2 ∧ d * d2 ≤ 9 := by
    have a1 : d = 1 ∨ d = 2 ∨ d = 3 := by omega
    have a2 : d2 = 1 ∨ d2 = 2 ∨ d2 = 3 := by omega
    rcases a1 with rfl | rfl | rfl <;> rcases a2 with rfl | rfl | rfl <;> decide
  refine ST.retP (bAny (bs := (rngD 0 (d * d2).toNat).map (M.hit e d e2 d2)) T.bt rfl (EV.eq (LCV.evf (own := [("place", 6)]) (LCV.map (fun x => .bool (M.hit e d e2 d2 x)) (IV.rng1 (oMul (nm 3) (nm 5) (.inl (by omega))) (by omega) (by omega) T.bt.range) (fun x hx => ?_) (by rw [rngD_len]; omega)) rfl scSharePlace.nd (blkOk_by (N := nSP) (sc := defScope sSharePlace) (by decide +kernel))).ev ?_)) ?_
  · obtain ⟨k, hk, rfl⟩ := rng_mem hx
    refine ⟨_, fun _ _ _ _ _ => GV.name (i := 6) scSharePlace.nd rfl (Or.inl rfl) (by simp), fun _ _ _ _ _ => ?_⟩
    exact EV.eq (EV.andD (cEq (oMod (nm 6) (nm 3) (by omega)) (nm 2)) fun _ => EV.one (cEq (oMod (nm 6) (nm 5) (by omega)) (nm 4))) rfl
  · rw [List.map_map]
    rfl
  · show Bb _ = Bb _
    rw [List.any_map]
    rfl
noncomputable abbrev nFT : List Str := ["clauses", "calls", "clause", "at", "other"]
theorem scFitTogether : FnScope nFT ["clauses"] (defScope sFitTogether) := ⟨rfl, rfl, rfl, by decide +kernel, rfl, by decide +kernel, by decide +kernel⟩
noncomputable def cnFit : Con := fun rs μ r μ' => ∃ cs, rs = [Ls cs] ∧ (cs.length ≤ 3 ∧ ∀ c ∈ cs, M.WfC c) ∧ r = Bb (M.fit cs) ∧ μ' = μ
theorem enD_mem {ds : List PyData} {n : Nat} {d : PyData} (h : d ∈ enD n ds) : ∃ (i : Nat) (c : PyData), ds[i]? = some c ∧ d = .tuple [.int ((n + i : Nat) : Int), c] := by
  obtain ⟨i, hi⟩ := List.mem_iff_getElem?.mp h
  obtain ⟨c, h1, h2⟩ := enD_get hi
  exact ⟨i, c, h1, h2⟩
theorem cutD_mem {cs : List PyData} {lo hi : Option Int} {x : PyData} (h : x ∈ cutD cs lo hi) : x ∈ cs := List.mem_of_mem_drop (List.mem_of_mem_take h)
theorem cutD_len {cs : List PyData} {lo hi : Option Int} : (cutD cs lo hi).length ≤ cs.length := by
  unfold cutD
  rw [List.length_take, List.length_drop]
  omega
theorem ahead_len {cs : List PyData} {d : PyData} : (M.ahead cs d).length ≤ cs.length := by
  have key : M.ahead cs d = [] ∨ ∃ i, M.ahead cs d = cutD cs none (some i) := by
    cases d with
    | tuple l =>
      match l with
      | [] => exact .inl rfl
      | [a] => cases a <;> exact .inl rfl
      | _ :: _ :: _ :: _ =>
        rename_i a _ _ _
        cases a <;> exact .inl rfl
      | [a, _] =>
        cases a with
        | int i => exact .inr ⟨i, rfl⟩
        | _ => exact .inl rfl
    | _ => exact .inl rfl
  rcases key with e | ⟨i, e⟩
  · rw [e]
    exact Nat.zero_le _
  · rw [e]
    exact cutD_len
theorem flat_len {α : Type} (F : α → List PyData) (m : Nat) (hF : ∀ d, (F d).length ≤ m) : ∀ (l : List α), (l.flatMap F).length ≤ l.length * m
  | [] => by simp
  | d :: l => by
    rw [List.flatMap_cons, List.length_append, List.length_cons, Nat.add_mul]
    have := flat_len F m hF l
    have := hF d
    omega
theorem cFit (T : Gf mg) (C1 : Cal P w K mg base "share_place" 1 ["clause", "other"] cnSharePlace) (D : Df K mg "fit_together" sFitTogether) : Cal P w K mg base "fit_together" 2 ["clauses"] cnFit := by
  refine D.cal scFitTogether (fun _ _ _ _ _ _ us hl => len1 us hl fun _ => rfl) (by decide) (fun rs μ r μ' h => by obtain ⟨_, _, _, _, rfl⟩ := h; rfl) fun f cdv A outer s0 H E hr rs μ r μ' hC => ?_
  obtain ⟨cs, rfl, ⟨h3, hw⟩, rfl, rfl⟩ := hC
  refine ST.lc (i := 1) (own := [("clause", 2)]) (LCV.map (fun c => .bool (M.isCall c)) (IV.lst (nm 0)) (fun c hc => ?_) (by omega)) rfl scFitTogether.nd rfl rfl (blkOk_by (N := nFT) (sc := defScope sFitTogether) (by decide +kernel)) ?_ (sw_true rfl rfl rfl (by decide +kernel))
  · obtain ⟨n1, e, d, m1, rfl, _⟩ := hw c hc
    exact ⟨_, fun _ _ _ _ _ => GV.name (i := 2) scFitTogether.nd rfl (Or.inl rfl) (by simp), fun _ _ _ _ _ => EV.eq (cEq (ixT (nm 2) EV.int (at_nat (i := 0) rfl)) EV.str) rfl⟩
  · have ec : cs.map (fun c => PyData.bool (M.isCall c)) = (cs.map M.isCall).map .bool := by rw [List.map_map]; rfl
    rw [ec]
    have hf : M.fit cs = (if (cs.map M.isCall).any id && !((cs.map M.isCall).all id) then false else !(((enD 0 cs).flatMap fun d => (M.ahead cs d).map (M.shareAt d)).any id)) := rfl
    refine ST.ifR (WV.tv (WV.andP (TV.val (bAny T.bt rfl (nm 1))) (WV.and1 (TV.not (TV.val (bAll T.bt rfl (nm 1))))))) (fun hk => ?_) (fun hk => ?_)
    · refine ST.retP EV.bl ?_
      rw [hf, if_pos hk]
      rfl
    · have e2 : M.fit cs = !(((enD 0 cs).flatMap fun d => (M.ahead cs d).map (M.shareAt d)).any id) := by rw [hf, if_neg (by rw [hk]; exact Bool.false_ne_true)]
      rw [e2]
      refine ST.retP (EV.not (bAny (bs := (enD 0 cs).flatMap fun d => (M.ahead cs d).map (M.shareAt d)) T.bt rfl (EV.eq (LCV2.evf (own := [("at", 3), ("clause", 2), ("other", 4)]) (vs1 := [4]) (M.ahead cs) (fun d o => .bool (M.shareAt d o)) (IV.enum (nm 0) T.bt.enumerate) rfl scFitTogether.nd (blkOk_by (N := nFT) (sc := defScope sFitTogether) (by decide +kernel)) (by simp) (fun d hd => ?_) (fun m => ?_) (fun m d hd m2 => ?_)).ev ?_))) rfl
      · obtain ⟨i, c, hc, rfl⟩ := enD_mem hd
        have hcm : c ∈ cs := List.mem_iff_getElem?.mpr ⟨i, hc⟩
        refine ⟨_, fun _ _ _ _ _ => GV.tup (GsV.cons (GV.name (i := 3) scFitTogether.nd rfl (by first | exact Or.inl rfl | exact Or.inr rfl) (by simp)) (GsV.cons (GV.name (i := 2) scFitTogether.nd rfl (by first | exact Or.inl rfl | exact Or.inr rfl) (by simp)) GsV.nil)), fun _ _ _ _ _ => IV.lst (EV.slL (nm 0) PartV.none (PartV.some (nm 3))), fun o ho => ?_⟩
        refine ⟨_, fun _ _ _ _ _ => GV.name (i := 4) scFitTogether.nd rfl (Or.inl rfl) (by simp), fun _ _ _ _ _ => ?_⟩
        exact EV.call C1 hr (AV.cons (nm 2) (AV.cons (nm 4) AV.nil)) ⟨c, o, rfl, ⟨hw c hcm, hw o (cutD_mem ho)⟩, rfl, rfl⟩
      · refine Nat.le_trans (flat_len _ 3 (fun d => by rw [List.length_map]; exact Nat.le_trans ahead_len h3) _) ?_
        rw [List.length_take, enD_len]
        omega
      · have h1 : (M.ahead cs d).length ≤ 3 := Nat.le_trans ahead_len h3
        by_cases hm : m2 ≤ 3
        · refine .inl ?_
          have := flat_len (fun d => (M.ahead cs d).map fun o => PyData.bool (M.shareAt d o)) 3 (fun d => by rw [List.length_map]; exact Nat.le_trans ahead_len h3) ((enD 0 cs).take m)
          rw [List.length_take, enD_len] at this
          omega
        · exact .inr (by omega)
      · rw [List.map_flatMap]
        congr 2
        funext d
        rw [List.map_map]
        rfl
noncomputable abbrev nRR : List Str := ["text", "clauses", "part"]
theorem scReadRound : FnScope nRR ["text"] (defScope sReadRound) := ⟨rfl, rfl, rfl, by decide +kernel, rfl, by decide +kernel, by decide +kernel⟩
noncomputable def cnReadRound : Con := fun rs μ r μ' => ∃ d, rs = [.dat d] ∧ (isObj d = false ∧ ∀ s, d = .str s → s.length ≤ 99990) ∧ r = .dat (M.readRound d) ∧ μ' = μ
noncomputable def clF : PyData → PyData
  | .str s => M.readClause s
  | d => d
theorem cReadRound (T : Gf mg) (C1 : Cal P w K mg base "read_clause" 3 ["text"] cnReadClause) (C2 : Cal P w K mg base "fit_together" 2 ["clauses"] cnFit) (D : Df K mg "read_round" sReadRound) : Cal P w K mg base "read_round" 4 ["text"] cnReadRound := by
  refine D.cal scReadRound (fun _ _ _ _ _ _ us hl => len1 us hl fun _ => rfl) (by decide) (fun rs μ r μ' h => by obtain ⟨_, _, _, _, rfl⟩ := h; rfl) fun f cdv A outer s0 H E hr rs μ r μ' hC => ?_
  obtain ⟨d, rfl, ⟨hob, hs⟩, rfl, rfl⟩ := hC
  cases hd : isStrL d with
  | false =>
    refine ST.ifYes (TV.not (TV.val (isI T.bt (nm 0) (kit_str d) (by decide +kernel) T.bt.str))) (by rw [hd]; rfl) (ST.retP EV.non ?_)
    cases d <;> first | rfl | cases hd
  | true =>
    obtain ⟨s, rfl⟩ : ∃ s, d = .str s := by cases d <;> first | exact ⟨_, rfl⟩ | cases hd
    have hl := hs s rfl
    refine ST.ifNo (TV.not (TV.val (isI T.bt (nm 0) (kit_str _) (by decide +kernel) T.bt.str))) rfl ?_
    have hpl : ((Txt.split s "; ").map PyData.str).length ≤ 100000 := by
      rw [List.length_map, M.split_list s "; " (by decide +kernel) (by decide +kernel), List.length_map]
      have : ∀ (S : List Nat) (k : Nat) (acc l : List Nat), (TL.spl S k acc l).length ≤ l.length + 1 := by
        intro S k acc l
        induction l generalizing k acc with
        | nil => rw [TL.spl_nil]; simp
        | cons c r ih =>
          cases k with
          | zero =>
            unfold TL.spl
            split
            · have := ih (S.length - 1) []
              simp
              omega
            · have := ih 0 (acc ++ [c])
              simp
              omega
          | succ k =>
            unfold TL.spl
            have := ih k acc
            simp
            omega
      have h2 := this (TL.tl "; ") 0 [] (TL.tl s)
      rw [← TL.len_tl] at h2
      omega
    refine ST.lc (i := 1) (own := [("part", 2)]) (LCV.map clF (IV.lst (EV.split (nm 0) EV.str (by decide +kernel) (sz2 (by omega)))) (fun c hc => ?_) hpl) rfl scReadRound.nd rfl rfl (blkOk_by (N := nRR) (sc := defScope sReadRound) (by decide +kernel)) ?_ (sw_true rfl rfl rfl (by decide +kernel))
    · obtain ⟨p, hp, rfl⟩ := List.mem_map.mp hc
      have := M.split_len s "; " (by decide +kernel) (by decide +kernel) p hp
      exact ⟨_, fun _ _ _ _ _ => GV.name (i := 2) scReadRound.nd rfl (Or.inl rfl) (by simp), fun _ _ _ _ _ => EV.call C1 (hr.mono (by decide)) (AV.cons (nm 2) AV.nil) ⟨p, rfl, by omega, rfl, rfl⟩⟩
    · have ec : ((Txt.split s "; ").map PyData.str).map clF = (Txt.split s "; ").map M.readClause := by rw [List.map_map]; rfl
      rw [ec]
      generalize hcs : (Txt.split s "; ").map M.readClause = cs
      have hcw : ∀ c ∈ cs, c = .none ∨ M.WfC c := by
        intro c hc
        rw [← hcs] at hc
        obtain ⟨p, _, rfl⟩ := List.mem_map.mp hc
        exact M.readClause_cases p
      have hrr : M.readRound (.str s) = (if cs.length > 3 then .none else if cs.any isNone then .none else if M.fit cs then .tuple cs else .none) := by
        rw [← hcs]
        rfl
      rw [hrr]
      have hu := hr.units
      by_cases h3 : cs.length > 3
      · rw [if_pos h3]
        exact ST.ifYes (WV.tv (WV.orT (tGt (bLenL T.bt (nm 1)) (gI T.mclauses)) (by exact decide_eq_true (by omega)))) rfl (ST.retP EV.non rfl)
      · rw [if_neg h3]
        cases hn : cs.any isNone with
        | true =>
          rw [if_pos rfl]
          exact ST.ifYes (WV.tv (WV.orF (tGt (bLenL T.bt (nm 1)) (gI T.mclauses)) (WV.orT (tInDeep (u65 hr) EV.non (nm 1) (by rfl) (M.cls_shaped hcw)) (by exact (M.any_none hcw).trans hn)) (by exact decide_eq_false (by omega)))) rfl (ST.retP EV.non rfl)
        | false =>
          rw [if_neg (by simp)]
          have hw2 : ∀ c ∈ cs, M.WfC c := fun c hc => (hcw c hc).resolve_left fun z => by
            have := List.any_eq_false.mp hn c hc
            rw [z] at this
            exact this rfl
          refine ST.ifR (WV.tv (WV.orF (tGt (bLenL T.bt (nm 1)) (gI T.mclauses)) (WV.orF (tInDeep (u65 hr) EV.non (nm 1) (by rfl) (M.cls_shaped hcw)) (WV.or1 (TV.not (TV.val (EV.call C2 (hr.mono (by decide)) (AV.cons (nm 1) AV.nil) ⟨cs, rfl, ⟨by omega, hw2⟩, rfl, rfl⟩)))) (by exact (M.any_none hcw).trans hn)) (by exact decide_eq_false (by omega)))) (fun hk => ?_) (fun hk => ?_)
          · rw [if_neg (by simp at hk; rw [hk]; exact Bool.false_ne_true)]
            exact ST.retP EV.non rfl
          · rw [if_pos (by simpa using hk)]
            exact ST.retP (bTupL T.bt (nm 1)) rfl
end
end J
namespace J
open PySem PySem.Spec
open PyProof.Rows L2
section
variable {w : World} {P : Program} {K : PySem.W.Frag} {base : Heap} {mg : Str → Option Value}
noncomputable def NamesAt (μ : Sto) (r : Ent) (ns : List Str) : Prop := (∃ k, r = .ptr k ∧ μ[k]? = some (ns.map .str)) ∨ r = Tp (ns.map .str)
noncomputable abbrev nCS : List Str := ["text", "names", "at", "clauses", "deed", "remainder", "divisor", "more", "lowest"]
theorem scCanStand : FnScope nCS ["text", "names", "at"] (defScope sCanStand) := ⟨rfl, rfl, rfl, by decide +kernel, rfl, by decide +kernel, by decide +kernel⟩
noncomputable def cnCanStand : Con := fun rs μ r μ' => ∃ t rn ns at_, rs = [.dat t, rn, Ii at_] ∧ (isObj t = false ∧ M.smallT t ∧ NamesAt μ rn ns) ∧ r = Bb (M.canStand t ns at_) ∧ μ' = μ
theorem strs_flat (ns : List Str) : (ns.map PyData.str).all flatD = true := by
  rw [List.all_map, List.all_eq_true]
  exact fun _ _ => rfl
theorem cCanStand (C1 : Cal P w K mg base "read_round" 4 ["text"] cnReadRound) (D : Df K mg "can_stand" sCanStand) : Cal P w K mg base "can_stand" 5 ["text", "names", "at"] cnCanStand := by
  refine D.cal scCanStand (fun _ _ _ _ _ _ us hl => len3 us hl fun _ _ _ => rfl) (by decide) (fun rs μ r μ' h => by obtain ⟨_, _, _, _, _, _, _, rfl⟩ := h; rfl) fun f cdv A outer s0 H E hr rs μ r μ' hC => ?_
  obtain ⟨t, rn, ns, at_, rfl, ⟨hob, ht, hn⟩, rfl, rfl⟩ := hC
  refine ST.set (i := 3) (EV.call C1 hr (AV.cons (nm 0) AV.nil) ⟨t, rfl, ⟨hob, ht⟩, rfl, rfl⟩) scCanStand.nd rfl (Or.inl rfl) ?_
  rcases M.readRound_cases t with q | ⟨cs, q, hw⟩
  · have e : M.canStand t ns at_ = false := by
      unfold M.canStand
      rw [q]
    rw [q, e]
    exact ST.ifYes (tIsN (nm 3)) rfl (ST.retP EV.bl rfl)
  · have e : M.canStand t ns at_ = cs.all (M.clauseStands ns at_) := by
      unfold M.canStand
      rw [q]
    rw [q, e]
    refine ST.ifNo (tIsN (nm 3)) rfl ?_
    refine ST.for_ (is := [4, 5, 6, 7]) (IV.tup (nm 3)) (fun i ρ ν => (∃ a b c d g, ρ = [some (.dat t), some rn, some (Ii at_), some (Tp cs), a, b, c, d, g]) ∧ ν = μ' ∧ (cs.take i).all (M.clauseStands ns at_) = true) ⟨⟨_, _, _, _, _, rfl⟩, rfl, by simp⟩ (fun i c ρ ν hc hI => ?_) (fun ρ ν hI => ?_)
    · obtain ⟨⟨a, b, c0, d0, g, rfl⟩, rfl, hp⟩ := hI
      obtain ⟨deed, e0, d, more, rfl, h1, h2, h3, hd, hm⟩ := hw c (List.mem_iff_getElem?.mpr ⟨i, hc⟩)
      have hfm : flatD more = true := by rcases hm with ⟨i, rfl⟩ | ⟨s, rfl, _⟩ <;> rfl
      refine ⟨_, GV.tup (GsV.cons (GV.name (i := 4) scCanStand.nd rfl (Or.inl rfl) (by simp)) (GsV.cons (GV.name (i := 5) scCanStand.nd rfl (Or.inl rfl) (by simp)) (GsV.cons (GV.name (i := 6) scCanStand.nd rfl (Or.inl rfl) (by simp)) (GsV.cons (GV.name (i := 7) scCanStand.nd rfl (Or.inl rfl) (by simp)) GsV.nil)))), ?_⟩
      refine ST.set (i := 8) (r := Ii (if d == 1 then at_ + 1 else 0)) (EV.ifx (tEq (nm 6) EV.int) (fun hk => EV.eq (oAdd (nm 2) EV.int) (by have hk' : (d == 1) = true := hk; rw [if_pos hk'])) (fun hk => EV.eq EV.int (by have hk' : (d == 1) = false := hk; rw [if_neg (by rw [hk']; exact Bool.false_ne_true)]))) scCanStand.nd rfl (Or.inl rfl) ?_
      have step : (cs.take (i + 1)).all (M.clauseStands ns at_) = M.clauseStands ns at_ (.tuple [.str deed, .int e0, .int d, more]) := by
        rw [List.take_succ, hc]
        simp [hp]
      have hcl : M.clauseStands ns at_ (.tuple [.str deed, .int e0, .int d, more]) = !(deed == "call" && !inD more ((M.cutL ns (some (if d == 1 then at_ + 1 else 0)) none).map .str)) := rfl
      refine ST.iff (WV.tv (WV.andP (tEq (nm 4) EV.str) (WV.and1 (k := !inD more ((M.cutL ns (some (if d == 1 then at_ + 1 else 0)) none).map .str)) ?_))) (fun hk => ?_) (fun hk => ?_)
      · rcases hn with ⟨kk, rfl, hkk⟩ | rfl
        · exact tNiL (nm 7) (EV.eq (EV.slC (nm 1) (PartV.some (nm 8)) PartV.none hkk) (congrArg Ls (M.cutD_map _ _ _ _))) hfm (strs_flat _)
        · exact tNiT (nm 7) (EV.eq (EV.slT (nm 1) (PartV.some (nm 8)) PartV.none) (congrArg Tp (M.cutD_map _ _ _ _))) hfm (strs_flat _)
      · have hk' : (deed == "call" && !inD more ((M.cutL ns (some (if d == 1 then at_ + 1 else 0)) none).map .str)) = true := hk
        refine ST.ret EV.bl ⟨?_, by simp⟩
        have : cs.all (M.clauseStands ns at_) = false := by
          rw [List.all_eq_false]
          exact ⟨_, List.mem_iff_getElem?.mpr ⟨i, hc⟩, by rw [hcl, hk']; simp⟩
        rw [this]
        rfl
      · have hk' : (deed == "call" && !inD more ((M.cutL ns (some (if d == 1 then at_ + 1 else 0)) none).map .str)) = false := hk
        exact ST.nil (ST.nil ⟨⟨_, _, _, _, _, rfl⟩, rfl, by rw [step, hcl, hk']; rfl⟩)
    · obtain ⟨⟨a, b, c0, d0, g, rfl⟩, rfl, hp⟩ := hI
      rw [List.take_length] at hp
      rw [hp]
      exact ST.retP EV.bl rfl
theorem scAreRounds : FnScope ["value", "text"] ["value"] (defScope sAreRounds) := ⟨rfl, rfl, rfl, by decide +kernel, rfl, by decide +kernel, by decide +kernel⟩
noncomputable def cnAreRounds : Con := fn1 (fun d => nob d = true ∧ M.smallR d) fun d => .bool (M.areRounds d)
theorem cAreRounds (T : Gf mg) (C1 : Cal P w K mg base "read_round" 4 ["text"] cnReadRound) (D : Df K mg "are_rounds" sAreRounds) : Cal P w K mg base "are_rounds" 5 ["value"] cnAreRounds := by
  refine D.cal scAreRounds (fun _ _ _ _ _ _ us hl => len1 us hl fun _ => rfl) (by decide) (fun rs μ r μ' h => by obtain ⟨_, _, _, _, rfl⟩ := h; rfl) fun f cdv A outer s0 H E hr rs μ r μ' hC => ?_
  obtain ⟨d, rfl, ⟨hnb, hs⟩, rfl, rfl⟩ := hC
  have hob := nob_isObj hnb
  cases hd : isTupleL d with
  | false =>
    refine ST.ifYes (WV.tv (WV.orT (TV.not (TV.val (isI T.bt (nm 0) (kit_tuple d) (by decide +kernel) T.bt.tuple))) (by rw [hd]; rfl))) rfl (ST.retP EV.bl ?_)
    cases d <;> first | rfl | cases hd
  | true =>
    obtain ⟨ds, rfl⟩ : ∃ ds, d = .tuple ds := by cases d <;> first | exact ⟨_, rfl⟩ | cases hd
    refine ST.ifR (WV.tv (WV.orF (TV.not (TV.val (isI T.bt (nm 0) (kit_tuple _) (by decide +kernel) T.bt.tuple))) (WV.or1 (TV.not (tChainLe op_le op_le EV.int (bLenT T.bt (nm 0)) (gI T.mrounds)))))) (fun hk => ?_) (fun hk => ?_)
    · refine ST.retP EV.bl ?_
      have : M.areRounds (.tuple ds) = false := by
        simp only [Bool.not_eq_true'] at hk
        show ((decide (1 ≤ (ds.length : Int)) && decide ((ds.length : Int) ≤ 5)) && ds.all fun x => !isNone (M.readRound x)) = false
        rw [hk, Bool.false_and]
      exact congrArg (fun b => Bb b) this.symm
    · simp only [Bool.not_eq_false'] at hk
      have h5 : ds.length ≤ 5 := by
        rw [Bool.and_eq_true, decide_eq_true_eq, decide_eq_true_eq] at hk
        omega
      refine ST.retP (bAll (bs := ds.map fun x => !isNone (M.readRound x)) T.bt rfl (EV.eq (LCV.evf (own := [("text", 1)]) (LCV.map (fun x => .bool (!isNone (M.readRound x))) (IV.tup (nm 0)) (fun x hx => ?_) (by omega)) rfl scAreRounds.nd (blkOk_by (N := ["value", "text"]) (sc := defScope sAreRounds) (by decide +kernel))).ev ?_)) ?_
      · exact ⟨_, fun _ _ _ _ _ => GV.name (i := 1) scAreRounds.nd rfl (Or.inl rfl) (by simp), fun _ _ _ _ _ => cNotN (EV.call C1 hr (AV.cons (nm 1) AV.nil) ⟨x, rfl, ⟨nob_isObj (nob_tup hnb x hx), hs ds rfl x hx⟩, rfl, rfl⟩)⟩
      · rw [List.map_map]
        rfl
      · have : M.areRounds (.tuple ds) = (ds.map fun x => !isNone (M.readRound x)).all id := by
          show ((decide (1 ≤ (ds.length : Int)) && decide ((ds.length : Int) ≤ 5)) && ds.all fun x => !isNone (M.readRound x)) = _
          rw [hk, Bool.true_and, List.all_map]
          rfl
        exact congrArg (fun b => Bb b) this.symm
noncomputable abbrev nIP : List Str := ["value", "name", "goal", "base", "rounds"]
theorem scIsPlan : FnScope nIP ["value"] (defScope sIsPlan) := ⟨rfl, rfl, rfl, by decide +kernel, rfl, by decide +kernel, by decide +kernel⟩
noncomputable def cnIsPlan : Con := fn1 (fun d => nob d = true ∧ M.smallP d) fun d => .bool (M.isPlan d)
theorem cIsPlan (T : Gf mg) (C1 : Cal P w K mg base "is_integer" 1 ["value"] (fn1 (fun d => isObj d = false) fun d => .bool (M.isInteger d)))
    (C2 : Cal P w K mg base "is_name" 1 ["value"] (fn1 (fun d => isObj d = false ∧ ∀ s, d = .str s → s.length ≤ 1000000) fun d => .bool (M.isName d))) (C3 : Cal P w K mg base "is_goal" 1 ["value"] (fn1 (fun d => isObj d = false) fun d => .bool (M.isGoal d)))
    (C4 : Cal P w K mg base "are_rounds" 5 ["value"] cnAreRounds) (D : Df K mg "is_plan" sIsPlan) : Cal P w K mg base "is_plan" 6 ["value"] cnIsPlan := by
  refine D.cal scIsPlan (fun _ _ _ _ _ _ us hl => len1 us hl fun _ => rfl) (by decide) (fun rs μ r μ' h => by obtain ⟨_, _, _, _, rfl⟩ := h; rfl) fun f cdv A outer s0 H E hr rs μ r μ' hC => ?_
  obtain ⟨d, rfl, ⟨hnb, hs⟩, rfl, rfl⟩ := hC
  have hob := nob_isObj hnb
  have hr1 := hr.mono (show 1 ≤ 5 by decide)
  show ST _ _ _ _ _ _ (PostR (Bb (M.isPlan d)) _)
  by_cases h4 : ∃ n g b rr, d = .tuple [n, g, b, rr]
  · obtain ⟨n, g, b, rr, rfl⟩ := h4
    obtain ⟨sn, sr⟩ := hs n g b rr rfl
    have nbn := nob_tup hnb n (by simp)
    have nbg := nob_isObj (nob_tup hnb g (by simp))
    have nbb := nob_isObj (nob_tup hnb b (by simp))
    have nbr := nob_tup hnb rr (by simp)
    refine ST.ifNo (WV.tv (WV.orF (TV.not (TV.val (isI T.bt (nm 0) (kit_tuple _) (by decide +kernel) T.bt.tuple))) (WV.or1 (tNe (bLenT T.bt (nm 0)) EV.int)))) rfl ?_
    refine ST.asg (is := [1, 2, 3, 4]) (nm 0) (GV.tup (GsV.cons (GV.name (i := 1) scIsPlan.nd rfl (Or.inl rfl) (by simp)) (GsV.cons (GV.name (i := 2) scIsPlan.nd rfl (Or.inl rfl) (by simp)) (GsV.cons (GV.name (i := 3) scIsPlan.nd rfl (Or.inl rfl) (by simp)) (GsV.cons (GV.name (i := 4) scIsPlan.nd rfl (Or.inl rfl) (by simp)) GsV.nil))))) ?_
    have e0 : M.isPlan (.tuple [n, g, b, rr]) = (M.baseOk b && (M.isName n && (M.isGoal g && M.areRounds rr))) := rfl
    rw [e0]
    cases hb : M.isInteger b with
    | false =>
      have : M.baseOk b = false := by cases b <;> first | rfl | cases hb
      rw [this, Bool.false_and]
      exact ST.ifYes (WV.tv (WV.orT (TV.not (TV.val (EV.call C1 hr1 (AV.cons (nm 3) AV.nil) ⟨b, rfl, nbb, rfl, rfl⟩))) (by rw [hb]; rfl))) rfl (ST.retP EV.bl rfl)
    | true =>
      obtain ⟨i, rfl⟩ : ∃ i, b = .int i := by cases b <;> first | exact ⟨_, rfl⟩ | cases hb
      refine ST.ifR (WV.tv (WV.orF (TV.not (TV.val (EV.call C1 hr1 (AV.cons (nm 3) AV.nil) ⟨_, rfl, rfl, rfl, rfl⟩))) (WV.or1 (TV.not (tChainLe op_le op_le EV.int (nm 3) (gI T.mbase)))))) (fun hk => ?_) (fun hk => ?_)
      · have : M.baseOk (.int i) = false := by
          simp only [Bool.not_eq_true'] at hk
          exact hk
        rw [this, Bool.false_and]
        exact ST.retP EV.bl rfl
      · have : M.baseOk (.int i) = true := by
          simp only [Bool.not_eq_false'] at hk
          exact hk
        rw [this, Bool.true_and]
        exact ST.retP (EV.andD (EV.call C2 hr1 (AV.cons (nm 1) AV.nil) ⟨n, rfl, ⟨nob_isObj nbn, fun s h => Nat.le_trans (sn s h) (by decide)⟩, rfl, rfl⟩) fun _ => EV.andD (EV.call C3 hr1 (AV.cons (nm 2) AV.nil) ⟨g, rfl, nbg, rfl, rfl⟩) fun _ => EV.one (EV.call C4 hr (AV.cons (nm 4) AV.nil) ⟨rr, rfl, ⟨nbr, sr⟩, rfl, rfl⟩)) rfl
  · have : M.isPlan d = false := by
      unfold M.isPlan
      split
      · exact absurd ⟨_, _, _, _, rfl⟩ h4
      · rfl
    rw [this]
    cases hd : isTupleL d with
    | false =>
      exact ST.ifYes (WV.tv (WV.orT (TV.not (TV.val (isI T.bt (nm 0) (kit_tuple d) (by decide +kernel) T.bt.tuple))) (by rw [hd]; rfl))) rfl (ST.retP EV.bl rfl)
    | true =>
      obtain ⟨ds, rfl⟩ : ∃ ds, d = .tuple ds := by cases d <;> first | exact ⟨_, rfl⟩ | cases hd
      have hl : ds.length ≠ 4 := fun z => by
        match ds, z with
        | [a, b, c, e], _ => exact h4 ⟨_, _, _, _, rfl⟩
      exact ST.ifYes (WV.tv (WV.orF (TV.not (TV.val (isI T.bt (nm 0) (kit_tuple _) (by decide +kernel) T.bt.tuple))) (WV.or1 (tNe (bLenT T.bt (nm 0)) EV.int)))) (by simp [eqS]; omega) (ST.retP EV.bl rfl)
noncomputable abbrev nCP : List Str := ["plans", "names", "at", "plan", "text"]
theorem scCheckPlans : FnScope nCP ["plans"] (defScope sCheckPlans) := ⟨rfl, rfl, rfl, by decide +kernel, rfl, by decide +kernel, by decide +kernel⟩
noncomputable def cnCheckPlans : Con := fun rs μ r μ' => ∃ ps, rs = [Tp ps] ∧ M.Good ps ∧ r = Nn ∧ μ' = μ
theorem plan_name {p : PyData} (h : M.isPlan p = true) : ∃ rest, p = .tuple (.str (M.nameOf p) :: rest) := by
  obtain ⟨n, g, b, rs, rfl, _⟩ := M.plan_shape h
  exact ⟨_, rfl⟩
theorem inD_strs (n : Str) (ns : List Str) : inD (.str n) (ns.map .str) = decide (n ∈ ns) := by
  induction ns with
  | nil => simp [inD]
  | cons m ns ih =>
    have : inD (.str n) ((m :: ns).map .str) = ((m == n) || inD (.str n) (ns.map .str)) := rfl
    rw [this, ih]
    by_cases h : n = m
    · simp [h]
    · have h2 : ¬ m = n := fun z => h z.symm
      simp [h, h2]
theorem cCheckPlans (T : Gf mg) (C1 : Cal P w K mg base "is_plan" 6 ["value"] cnIsPlan) (C2 : Cal P w K mg base "can_stand" 5 ["text", "names", "at"] cnCanStand) (D : Df K mg "check_plans" sCheckPlans) : Cal P w K mg base "check_plans" 7 ["plans"] cnCheckPlans := by
  refine D.calN scCheckPlans (fun _ _ _ _ _ _ us hl => len1 us hl fun _ => rfl) (by decide) (fun rs μ r μ' h => by obtain ⟨_, _, _, _, rfl⟩ := h; rfl) fun f cdv A outer s0 H E hr rs μ r μ' hC => ?_
  obtain ⟨ps, rfl, G, rfl, rfl⟩ := hC
  have hlen : (((ps.length : Nat) : Int) == 0) = false := by
    have := G.ge1
    exact beq_eq_false_iff_ne.mpr (by omega)
  refine ST.ifNo (WV.tv (WV.orF (TV.not (TV.val (isI T.bt (nm 0) (kit_tuple _) (by decide +kernel) T.bt.tuple))) (WV.or1 (tEq (bLenT T.bt (nm 0)) EV.int)))) hlen ?_
  refine ST.cell (i := 1) (EVF.lst (ds := []) AV.nil) scCheckPlans.nd rfl (Or.inr rfl) ?_
  refine ST.for_ (is := [2, 3]) (IV.enumT (nm 0) T.bt.enumerate) (fun i ρ ν => (∃ a b c, ρ = [some (Tp ps), some (.ptr μ'.length), a, b, c]) ∧ ν = μ' ++ [((ps.take i).map M.nameOf).map .str]) ⟨⟨_, _, _, rfl⟩, by simp⟩ (fun i d ρ ν hd hI => ?_) (fun ρ ν hI => ?_)
  · obtain ⟨⟨a, b, c, rfl⟩, rfl⟩ := hI
    obtain ⟨p, hp, rfl⟩ := enD_get hd
    have hpm : p ∈ ps := List.mem_iff_getElem?.mpr ⟨i, hp⟩
    obtain ⟨h1, h2⟩ := G.each p hpm
    obtain ⟨rest, hpe⟩ := plan_name h1
    have hil : i < ps.length := (List.getElem?_eq_some_iff.mp hp).1
    have hi4 : ((((0 + i : Nat)) : Int) == 4) = false := by
      have := G.le4
      simp
      omega
    have hcell : (μ' ++ [((ps.take i).map M.nameOf).map PyData.str])[μ'.length]? = some (((ps.take i).map M.nameOf).map .str) := by simp
    have hat : ∀ q, p = .tuple (.str (M.nameOf p) :: q) → (.dat p : Ent) = Tp (.str (M.nameOf p) :: q) := fun q z => congrArg Ent.dat z
    have hnew : inD (.str (M.nameOf p)) (((ps.take i).map M.nameOf).map .str) = false := by
      rw [inD_strs]
      refine decide_eq_false fun z => ?_
      obtain ⟨q, hq, e⟩ := List.mem_map.mp z
      obtain ⟨j, hj, ej⟩ := List.mem_take_iff_getElem.mp hq
      have hnd := G.nd
      have := List.pairwise_iff_getElem.mp hnd j i (by simp; omega) (by simp; omega) (by omega)
      have e1 : ps[i] = p := by
        have := (List.getElem?_eq_some_iff.mp hp).2
        exact this
      apply this
      rw [List.getElem_map, List.getElem_map, e1, ej, e]
    refine ⟨_, GV.tup (GsV.cons (GV.name (i := 2) scCheckPlans.nd rfl (by first | exact Or.inl rfl | exact Or.inr rfl) (by simp)) (GsV.cons (GV.name (i := 3) scCheckPlans.nd rfl (by first | exact Or.inl rfl | exact Or.inr rfl) (by simp)) GsV.nil)), ?_⟩
    have ev0 : ∀ {X : Cx} {ρ : REnv} {μ : Sto} {e : Expr}, EV X e ρ μ (.dat p) μ → EV X e ρ μ (Tp (.str (M.nameOf p) :: rest)) μ := fun h => EV.eq h (hat rest hpe)
    refine ST.ifNo (WV.tv (WV.orF (tEq (nm 2) (gI T.mplans)) (WV.orF (TV.not (TV.val (EV.call C1 hr (AV.cons (nm 3) AV.nil) ⟨p, rfl, ⟨M.plan_nob h1, h2⟩, rfl, rfl⟩))) (WV.or1 (tInC (ixT (ev0 (nm 3)) EV.int (at_nat (i := 0) rfl)) (nm 1) hcell rfl (strs_flat _))) (by rw [h1]; rfl)) (by exact hi4))) hnew ?_
    refine ST.expr (EV.app (nm 1) (ixT (ev0 (nm 3)) EV.int (at_nat (i := 0) rfl)) hcell (by have := G.le4; simp; omega)) (ST.nil ⟨⟨_, _, _, rfl⟩, ?_⟩)
    rw [List.take_succ, hp]
    simp
  · obtain ⟨⟨a, b, c, rfl⟩, rfl⟩ := hI
    rw [enD_len, List.take_length]
    have hcell : (μ' ++ [(ps.map M.nameOf).map PyData.str])[μ'.length]? = some ((ps.map M.nameOf).map .str) := by simp
    refine ST.for_ (is := [2, 3]) (IV.enumT (nm 0) T.bt.enumerate) (fun i ρ ν => (∃ a b c, ρ = [some (Tp ps), some (.ptr μ'.length), a, b, c]) ∧ ν = μ' ++ [(ps.map M.nameOf).map .str]) ⟨⟨_, _, _, rfl⟩, rfl⟩ (fun i d ρ ν hd hI => ?_) (fun ρ ν hI => ?_)
    · obtain ⟨⟨a, b, c, rfl⟩, rfl⟩ := hI
      obtain ⟨p, hp, rfl⟩ := enD_get hd
      have hpm : p ∈ ps := List.mem_iff_getElem?.mpr ⟨i, hp⟩
      obtain ⟨h1, h2⟩ := G.each p hpm
      have hst := G.stand i p hp
      obtain ⟨n, g, bb, rs, rfl, _, _, _, _, hrs⟩ := M.plan_shape h1
      have hrl : rs.length ≤ 5 := by
        unfold M.areRounds at hrs
        rw [Bool.and_eq_true, Bool.and_eq_true, decide_eq_true_eq, decide_eq_true_eq] at hrs
        omega
      refine ⟨_, GV.tup (GsV.cons (GV.name (i := 2) scCheckPlans.nd rfl (by first | exact Or.inl rfl | exact Or.inr rfl) (by simp)) (GsV.cons (GV.name (i := 3) scCheckPlans.nd rfl (by first | exact Or.inl rfl | exact Or.inr rfl) (by simp)) GsV.nil)), ?_⟩
      refine ST.ifNo (TV.not (TV.val (bAll (bs := rs.map fun _ => true) T.bt rfl (EV.eq (LCV.evf (own := [("text", 4)]) (LCV.map (fun _ => .bool true) (IV.tup (ixT (nm 3) EV.int (at_nat (i := 3) rfl))) (fun t ht => ?_) (by omega)) rfl scCheckPlans.nd (blkOk_by (N := nCP) (sc := defScope sCheckPlans) (by decide +kernel))).ev ?_)))) ?_ (ST.nil ⟨⟨_, _, _, rfl⟩, rfl⟩)
      · refine ⟨_, fun _ _ _ _ _ => GV.name (i := 4) scCheckPlans.nd rfl (Or.inl rfl) (by simp), fun _ _ _ _ _ => ?_⟩
        have := hst t ht
        have e : ((0 + i : Nat) : Int) = (i : Int) := by omega
        exact EV.eq (EV.call C2 (hr.mono (by decide)) (AV.cons (nm 4) (AV.cons (nm 1) (AV.cons (nm 2) AV.nil))) ⟨t, _, ps.map M.nameOf, _, rfl, ⟨(by obtain ⟨s, rfl⟩ := M.rounds_str hrs t ht; rfl), (h2 _ _ _ _ rfl).2 rs rfl t ht, .inl ⟨_, rfl, hcell⟩⟩, rfl, rfl⟩) (by rw [e, this])
      · rw [List.map_map]
        rfl
      · rw [List.all_map]
        simp
    · obtain ⟨⟨a, b, c, rfl⟩, rfl⟩ := hI
      exact ST.nil ⟨rfl, _, rfl⟩
end
end J
namespace M
open PySem J L2
end M
namespace J
open PySem PySem.Spec
open PyProof.Rows L2
structure Kl (K : PySem.W.Frag) (C : Addr) : Prop where
  cl : Cls K C
  nK : NoAttr K C "kept"
noncomputable abbrev bookE (C : Addr) (ps : List PyData) : Ent := .obj C [("kept", .tuple ps)]
section
variable {w : World} {P : Program} {K : PySem.W.Frag} {base : Heap} {mg : Str → Option Value} {C : Addr}
theorem strI_len (i : Int) (h0 : 0 ≤ i) (h9 : i ≤ 9) : (M.strI i).length = 1 := by
  have := (M.dig_text i.toNat (by omega)).2.2
  rwa [show ((i.toNat : Nat) : Int) = i by omega] at this
theorem sum_le {α : Type} (f : α → Nat) (m : Nat) : ∀ (l : List α), (∀ x ∈ l, f x ≤ m) → (l.map f).sum ≤ l.length * m
  | [], _ => by simp
  | x :: l, h => by
    have h1 := h x List.mem_cons_self
    have h2 := sum_le f m l fun y hy => h y (List.mem_cons_of_mem _ hy)
    rw [List.map_cons, List.sum_cons, List.length_cons, Nat.add_mul]
    omega
theorem scInit : FnScope ["self", "plans"] ["self", "plans"] (defScope sInit) := ⟨rfl, rfl, rfl, by decide +kernel, rfl, by decide +kernel, by decide +kernel⟩
theorem okInit {f : Addr} {fd : FuncData} (F : Fun K "__init__" "Book.__init__" sInit f fd) (B : Kl K C) (C1 : Cal P w K mg base "check_plans" 7 ["plans"] cnCheckPlans) : FnOk P w K mg base CX0 8 f fd ["self", "plans"] (spInit K C "kept" M.Good) := by
  refine F.ok scInit (fun vs H Q E h => ?_) (fun cdv A outer s H vs Q E hr h => ?_)
  · obtain ⟨x, dx, v, w, μ, ps, rfl, _⟩ := h
    rfl
  · obtain ⟨x, dx, v, w0, μ, ps, rfl, hx, hxa, m, hv, G, k⟩ := h
    refine ⟨_, pss_cons (ps_expr p_ex) (pss_one (ps_fld (pv 0) (pv 1) rfl)), ?_⟩
    have sl : Sl K H w0 (L2.start ["self", "plans"] [.ref x, v]) [none, some (Tp ps)] := by
      refine ⟨rfl, fun i r hi => ?_⟩
      match i, hi with
      | 0, hi => simp at hi
      | 1, hi =>
        simp at hi
        subst hi
        exact ⟨v, rfl, hv⟩
      | i + 2, hi => simp at hi
    refine use_ev (ρ := [none, some (Tp ps)]) (r := Nn) (μ' := μ) (EV.call C1 hr (AV.cons (nm 1) AV.nil) ⟨ps, rfl, G, rfl, rfl⟩) m sl fun u H1 m1 f1 _ => ?_
    have hx1 : H1 x = some (.ins C dx []) := f1 x _ hx (m.out x hxa) (fun q z => by cases z)
    refine ⟨v, rfl, _, rfl, x, C, dx, [], rfl, hx1, B.cl, B.nK, by decide, ?_⟩
    exact k H1 m1 f1 (hv.fr f1)
theorem scPlans : FnScope ["self"] ["self"] (defScope sPlans) := ⟨rfl, rfl, rfl, by decide +kernel, rfl, by decide +kernel, by decide +kernel⟩
noncomputable def cnPlans (C : Addr) : Con := fun rs μ r μ' => ∃ ps, rs = [bookE C ps] ∧ True ∧ r = Tp ps ∧ μ' = μ
theorem okPlans {f : Addr} {fd : FuncData} (F : Fun K "plans" "Book.plans" sPlans f fd) (B : Kl K C) : FnOk P w K mg base CX0 1 f fd ["self"] (SpV K ["self"] (cnPlans C)) := by
  refine fn_mk F scPlans (by decide) (fun rs μ r μ' h => by obtain ⟨_, rfl, _, _, rfl⟩ := h; exact ⟨rfl, rfl⟩) fun cdv A outer s H E hr rs μ r μ' hC => ?_
  obtain ⟨ps, rfl, _, rfl, rfl⟩ := hC
  exact ST.retP (EV.fld (nm 0) B.cl B.nK rfl) rfl
theorem scNames : FnScope ["self", "plan"] ["self"] (defScope sNames) := ⟨rfl, rfl, rfl, by decide +kernel, rfl, by decide +kernel, by decide +kernel⟩
noncomputable def cnNames (C : Addr) : Con := fun rs μ r μ' => ∃ ps, rs = [bookE C ps] ∧ M.Good ps ∧ r = Tp ((ps.map M.nameOf).map .str) ∧ μ' = μ
theorem okNames {f : Addr} {fd : FuncData} (T : Bt mg) (F : Fun K "names" "Book.names" sNames f fd) (B : Kl K C) : FnOk P w K mg base CX0 1 f fd ["self"] (SpV K ["self"] (cnNames C)) := by
  refine fn_mk F scNames (by decide) (fun rs μ r μ' h => by obtain ⟨_, rfl, _, _, rfl⟩ := h; exact ⟨rfl, rfl⟩) fun cdv A outer s H E hr rs μ r μ' hC => ?_
  obtain ⟨ps, rfl, G, rfl, rfl⟩ := hC
  refine ST.retP (bTupL T (EV.eq (LCV.evf (own := [("plan", 1)]) (LCV.map (fun p => .str (M.nameOf p)) (IV.tup (EV.fld (nm 0) B.cl B.nK rfl)) (fun p hp => ?_) (by have := G.le4; omega)) rfl scNames.nd (blkOk_by (N := ["self", "plan"]) (sc := defScope sNames) (by decide +kernel))).ev (congrArg Ls (by rw [List.map_map]; rfl)))) rfl
  obtain ⟨q, hq⟩ := plan_name (G.each p hp).1
  exact ⟨_, fun _ _ _ _ _ => GV.name (i := 1) scNames.nd rfl (Or.inl rfl) (by simp), fun _ _ _ _ _ => ixT (EV.eq (nm 1) (congrArg Ent.dat hq)) EV.int (at_nat (i := 0) rfl)⟩
noncomputable def spNamesF (K : PySem.W.Frag) (C : Addr) : Sp := fun vs H Q _ => ∃ w μ ps v, vs = [v] ∧ Mem K H w μ ∧ Val K H w v (bookE C ps) ∧ M.Good ps ∧
  ∀ l o H1, Mem K H1 w μ → Fr w.α H H1 → H1 l = none → o.cls = .type "tuple" → o.dict = none → Q (.ref l) (upd H1 l (.frz o (.tup ((ps.map M.nameOf).map .str))))
theorem okNamesF {f : Addr} {fd : FuncData} (T : Bt mg) (F : Fun K "names" "Book.names" sNames f fd) (B : Kl K C) : FnOk P w K mg base CX0 1 f fd ["self"] (spNamesF K C) := by
  refine F.ok scNames (fun vs H Q E h => ?_) (fun cdv A outer s H vs Q E hr h => ?_)
  · obtain ⟨w, μ, ps, v, rfl, _⟩ := h
    rfl
  · obtain ⟨w0, μ, ps, v, rfl, m, hv, G, k⟩ := h
    have sl : Sl K H w0 (L2.start ["self", "plan"] [v]) [some (bookE C ps), none] := sl_start (N := ["self", "plan"]) (rs := [bookE C ps]) (.cons hv .nil) (Nat.le_of_ble_eq_true rfl)
    refine ⟨_, pss_one (ps_ret (pe_callTy call_tupleF rfl T.tuple (by decide +kernel) (pa_cons p_ex pa_nil))), ?_⟩
    refine use_evf (ρ := [some (bookE C ps), none]) (xs := ps.map fun p => .str (M.nameOf p)) (μ' := μ) (LCV.evf (own := [("plan", 1)]) (LCV.map (fun p => .str (M.nameOf p)) (IV.tup (EV.fld (nm 0) B.cl B.nK rfl)) (fun p hp => ?_) (by have := G.le4; omega)) rfl scNames.nd (blkOk_by (N := ["self", "plan"]) (sc := defScope sNames) (by decide +kernel))) m sl fun p H1 us m1 f1 hp e1 hd => ?_
    · obtain ⟨q, hq⟩ := plan_name (G.each p hp).1
      exact ⟨_, fun _ _ _ _ _ => GV.name (i := 1) scNames.nd rfl (Or.inl rfl) (by simp), fun _ _ _ _ _ => ixT (EV.eq (nm 1) (congrArg Ent.dat hq)) EV.int (at_nat (i := 0) rfl)⟩
    have eus : us = ((ps.map M.nameOf).map V.str) := by
      have : DqAll (dl H1 (wk' w0 p).all) us ((ps.map M.nameOf).map .str) := by rwa [List.map_map]
      exact dqAll_strs' this
    subst eus
    exact ⟨p, _, rfl, SqL.of e1, fun l o hl hc hd => k l o H1 m1.unkeep f1 hl hc hd⟩
structure NmF (P : Program) (w : World) (K : PySem.W.Frag) (mg : Str → Option Value) (base : Heap) (C : Addr) : Prop where
  ex : ∃ p f fd, FnOk P w K mg base CX0 1 f fd ["self"] (spNamesF K C) ∧ PropOf K C "names" p f ∧ Binds K fd ["self"] []
theorem EV.nidx {X : Cx} {ρ : REnv} {μ : Sto} {o e : Expr} {ps : List PyData} {n : Str} {j : Nat} {p1 apos cpos : Pos} (hN : NmF X.prog X.w X.K X.mg X.base C) (B : Kl X.K C) (hr : Room 2 X.A) (ho : EV X o ρ μ (bookE C ps) μ) (he : EV X e ρ μ (Ss n) μ) (G : M.Good ps) (hj : (ps.map M.nameOf)[j]? = some n)
    (hb1 : attributeBase o "names" X.env (eval o X.env) = eval o X.env := by rfl) (hbase : attributeBase (.Attribute o "names" p1) "index" X.env (eval (.Attribute o "names" p1) X.env) = eval (.Attribute o "names" p1) X.env := by rfl)
    (hfew : ((backTo cpos (starEach [e] X.env)).all (fun x => !x.1) && (backToKw cpos (keywordEach [] X.env)).all (fun x => x.1.isSome) && decide ([e].length + ([] : List Keyword).length + (if ([] : List Keyword).isEmpty then 0 else 1) < 30)) = true := by rfl)
    (hline : (apos.endLine == cpos.line) = true := by rfl) (hs : starEach [e] X.env = (false, eval e X.env) :: starEach [] X.env := by rfl) (hp : (backTo cpos (starEach [] X.env)).any (·.1) = false := by rfl) : EV X (.Call (.Attribute (.Attribute o "names" p1) "index" apos) [e] [] cpos) ρ μ (Ii (j : Int)) μ := by
  intro w σ H m s Q q
  obtain ⟨pp, g, fd, F, po, bi⟩ := hN.ex
  refine ⟨_, pe_tix PySem.F.slot_tuple_index PySem.F.type_tuple_index mt_tup_index (pe_prop (E := E0) (p_ex (e := o)) B.cl po F hr bi .nil pass0 hb1) (p_ex (e := e)) hbase hfew hline hs hp, ?_⟩
  refine ho w σ H m s _ fun v H1 m1 f1 h1 => ?_
  have h1' := h1
  obtain ⟨x, dx, ws, rfl, hx, hn, hd⟩ := h1
  refine ⟨x, dx, ws, rfl, (dl_some hx).2, w, μ, ps, .ref x, rfl, m1, h1', G, fun l ob H2 m2 f2 hl hc hdd => ?_⟩
  have hS : Same H2 (upd H2 l (.frz ob (.tup ((ps.map M.nameOf).map .str)))) := Same.new hl
  refine ⟨⟨l, ob, _, rfl, upd_same, hc, hdd⟩, ?_⟩
  refine he w σ _ (m2.same hS) ((s.fr (f1.trans f2)).fr (Fr.of_same hS)) _ fun u H3 m3 f3 h3 => ?_
  cases h3
  have hla : l ∉ w.α := m2.fresh hl
  refine ⟨l, ps.map M.nameOf, n, j, rfl, rfl, .inl (.inr ⟨ob, f3 l _ upd_same hla (fun q z => by cases z)⟩), hj, fun k hk z => ?_, q _ H3 m3 (((f1.trans f2).trans (Fr.of_same hS)).trans f3) (Dq.int _)⟩
  obtain ⟨hk1, e1⟩ := List.getElem?_eq_some_iff.mp z
  obtain ⟨hj1, e2⟩ := List.getElem?_eq_some_iff.mp hj
  exact List.pairwise_iff_getElem.mp G.nd k j hk1 hj1 hk (by rw [e1, e2])
theorem scFindPlan : FnScope ["self", "name"] ["self", "name"] (defScope sFindPlan) := ⟨rfl, rfl, rfl, by decide +kernel, rfl, by decide +kernel, by decide +kernel⟩
noncomputable def cnFindPlan (C : Addr) : Con := fun rs μ r μ' => ∃ ps n j, rs = [bookE C ps, Ss n] ∧ (M.Good ps ∧ (ps.map M.nameOf)[j]? = some n) ∧ r = Ii ((j : Nat) : Int) ∧ μ' = μ
theorem okFindPlan {f : Addr} {fd : FuncData} (T : Bt mg) (F : Fun K "find_plan" "Book.find_plan" sFindPlan f fd) (B : Kl K C) (N1 : Prp P w K mg base C "names" 1 (cnNames C)) (N2 : NmF P w K mg base C) : FnOk P w K mg base CX0 3 f fd ["self", "name"] (SpV K ["self", "name"] (cnFindPlan C)) := by
  refine fn_mk F scFindPlan (by decide) (fun rs μ r μ' h => by obtain ⟨_, _, _, rfl, _, _, rfl⟩ := h; exact ⟨rfl, rfl⟩) fun cdv A outer s H E hr rs μ r μ' hC => ?_
  obtain ⟨ps, n, j, rfl, ⟨G, hj⟩, rfl, rfl⟩ := hC
  have hin : inD (.str n) ((ps.map M.nameOf).map .str) = true := by
    rw [inD_strs]
    exact decide_eq_true (List.mem_iff_getElem?.mpr ⟨j, hj⟩)
  refine ST.ifNo (WV.tv (WV.orF (TV.not (TV.val (isI T (nm 1) (kit_str _) (by decide +kernel) T.str))) (WV.or1 (tNiT (nm 1) (EV.prop (nm 0) B.cl N1 hr ⟨ps, rfl, G, rfl, rfl⟩) rfl (strs_flat _))))) (by rw [hin]; rfl) ?_
  exact ST.retP (EV.nidx N2 B hr (nm 0) (nm 1) G hj) rfl
theorem scPlan : FnScope ["self", "name"] ["self", "name"] (defScope sPlan) := ⟨rfl, rfl, rfl, by decide +kernel, rfl, by decide +kernel, by decide +kernel⟩
noncomputable def cnPlan (C : Addr) : Con := fun rs μ r μ' => ∃ (ps : List PyData) (n : Str) (j : Nat) (p : PyData), rs = [bookE C ps, Ss n] ∧ (M.Good ps ∧ (ps.map M.nameOf)[j]? = some n ∧ ps[j]? = some p) ∧ r = .dat p ∧ μ' = μ
theorem okPlan {f : Addr} {fd : FuncData} (F : Fun K "plan" "Book.plan" sPlan f fd) (B : Kl K C) (N1 : Mth P w K mg base C "find_plan" 3 ["self", "name"] (cnFindPlan C)) : FnOk P w K mg base CX0 4 f fd ["self", "name"] (SpV K ["self", "name"] (cnPlan C)) := by
  refine fn_mk F scPlan (by decide) (fun rs μ r μ' h => by obtain ⟨_, _, _, _, rfl, _, _, rfl⟩ := h; exact ⟨rfl, rfl⟩) fun cdv A outer s H E hr rs μ r μ' hC => ?_
  obtain ⟨ps, n, j, p, rfl, ⟨G, hj, hp⟩, rfl, rfl⟩ := hC
  exact ST.retP (ixT (EV.fld (nm 0) B.cl B.nK rfl) (EV.meth (nm 0) B.cl N1 hr rfl (AV.cons (nm 1) AV.nil) ⟨ps, n, j, rfl, ⟨G, hj⟩, rfl, rfl⟩) (at_nat hp)) rfl
theorem join_le (sep : Str) : ∀ ys : List Str, (Txt.join sep ys).length ≤ (ys.map (·.length)).sum + ys.length * sep.length := by
  intro ys
  rw [TL.join_eq]
  induction ys with
  | nil => exact Nat.zero_le _
  | cons x r ih =>
    cases r with
    | nil =>
      show x.length ≤ _
      simp
    | cons z r =>
      show (x ++ sep ++ Str.join sep (z :: r)).length ≤ _
      rw [strLen_append, strLen_append, List.map_cons, List.sum_cons, List.length_cons, Nat.add_mul]
      omega
end
end J
namespace J
open PySem PySem.Spec
open PyProof.Rows L2
theorem at_set {μ : Sto} {k : Nat} {ds es : List PyData} (h : μ[k]? = some ds) : (μ.set k es)[k]? = some es := by
  have := (List.getElem?_eq_some_iff.mp h).1
  simp [this]
theorem take_set {μ : Sto} {k : Nat} {es : List PyData} : (μ.set k es).take μ.length = μ.set k es := by
  rw [List.take_of_length_le (by simp)]
section
variable {w : World} {P : Program} {K : PySem.W.Frag} {base : Heap} {mg : Str → Option Value}
theorem scLDraw : FnScope ["_law_purse_here", "_law_many", "_law_mixed", "_law_digit"] ["_law_purse_here", "_law_many"] (defScope sLDraw) := ⟨rfl, rfl, rfl, by decide +kernel, rfl, by decide +kernel, by decide +kernel⟩
noncomputable def cnDraw : Con := fun rs μ r μ' => ∃ (k : Nat) (p : G.Pu) (m : Int), rs = [.ptr k, Ii m] ∧ (μ[k]? = some p.ds ∧ p.ok ∧ 0 < m ∧ m ≤ 100000) ∧ r = Ii (G.draw m p).1 ∧ μ' = μ.set k (G.draw m p).2.ds
theorem cDraw (T : Bt mg) (D : Df K mg "_law_draw" sLDraw) : Cal P w K mg base "_law_draw" 1 ["_law_purse_here", "_law_many"] cnDraw := by
  refine D.cal scLDraw (fun _ _ _ _ _ _ us hl => len2 us hl fun _ _ => rfl) (by decide) (fun rs μ r μ' h => by obtain ⟨_, _, _, _, _, _, rfl⟩ := h; simp) fun f cdv A outer s H E hr rs μ r μ' hC => ?_
  obtain ⟨k, p, m, rfl, ⟨hk, ⟨a1, a2, a3⟩, m1, m2⟩, rfl, rfl⟩ := hC
  refine ST.asgW (oAdd (ixC (nm 0) EV.int hk (at_nat (i := 2) rfl)) EV.int) (GW.sub (j := 2) (nm 0) EV.int hk (Nat.le_of_ble_eq_true rfl)) ?_
  have h1 := at_set (es := [.int p.a, .int p.b, .int (p.c + 1)]) hk
  refine ST.set (i := 2) (bIntI T (ixC (nm 0) EV.int h1 (at_nat (i := 0) rfl))) scLDraw.nd rfl (Or.inl rfl) ?_
  refine ST.asgW (oMod (bIntI T (oAdd (oAdd (oMul (nm 2) (oAdd (oMod (bIntI T (nm 2)) EV.int (by decide)) EV.int) (.inr (by have := Int.emod_nonneg p.a (show (997 : Int) ≠ 0 by decide); have := Int.emod_lt_of_pos p.a (show (0 : Int) < 997 by decide); omega))) (oMul EV.int (ixC (nm 0) EV.int h1 (at_nat (i := 2) rfl)) (.inl (by decide)))) EV.int)) EV.int (by decide)) (GW.sub (j := 0) (nm 0) EV.int h1 (Nat.le_of_ble_eq_true rfl)) ?_
  have h2 := at_set (es := [.int (G.mixA p), .int p.b, .int (p.c + 1)]) h1
  refine ST.ifR (tGt (ixC (nm 0) EV.int h2 (at_nat (i := 1) rfl)) EV.int) (fun hb => ?_) (fun hb => ?_)
  · refine ST.asgW (EV.callB call_divmod T.divmod (by decide +kernel) (AV.cons (ixC (nm 0) EV.int h2 (at_nat (i := 1) rfl)) (AV.cons (nm 1) AV.nil)) (cv_divmod ⟨m1, by omega⟩)) (GW.tup (GsW.cons (GW.sub (j := 1) (nm 0) EV.int h2 (Nat.le_of_ble_eq_true rfl)) (GsW.cons (GW.name (i := 3) scLDraw.nd rfl (Or.inl rfl)) GsW.nil))) ?_
    have e : G.draw m p = (p.b % m, ⟨G.mixA p, p.b / m, p.c + 1⟩) := by
      unfold G.draw
      rw [if_pos (of_decide_eq_true hb)]
    rw [e]
    refine ST.retP (nm 3) rfl ?_
    rw [List.set_set, List.set_set]
    exact take_set
  · have e : G.draw m p = (G.mixA p / 53 % m, ⟨G.mixA p, p.b, p.c + 1⟩) := by
      unfold G.draw
      rw [if_neg (of_decide_eq_false hb)]
    rw [e]
    refine ST.retP (oMod (bIntI T (oDiv (ixC (nm 0) EV.int h2 (at_nat (i := 0) rfl)) EV.int ⟨by decide, by decide⟩)) (nm 1) m1) rfl ?_
    rw [List.set_set]
    exact take_set
noncomputable def Menu (r : Ent) (ds : List PyData) : Prop := r = Ls ds ∨ ∃ s : Str, r = Ss s ∧ ds = strD s ∧ s.length ≤ 100000
noncomputable def cnPick : Con := fun rs μ r μ' => ∃ (k : Nat) (p : G.Pu) (m : Ent) (ds : List PyData), rs = [.ptr k, m] ∧ (μ[k]? = some p.ds ∧ p.ok ∧ Menu m ds ∧ 0 < ds.length ∧ ds.length ≤ 100000) ∧ r = .dat (G.pick .none ds p).1 ∧ μ' = μ.set k (G.pick .none ds p).2.ds
theorem scLPick : FnScope ["_law_purse_here", "_law_menu"] ["_law_purse_here", "_law_menu"] (defScope sLPick) := ⟨rfl, rfl, rfl, by decide +kernel, rfl, by decide +kernel, by decide +kernel⟩
theorem cPick (T : Bt mg) (C1 : Cal P w K mg base "_law_draw" 1 ["_law_purse_here", "_law_many"] cnDraw) (D : Df K mg "_law_pick" sLPick) : Cal P w K mg base "_law_pick" 2 ["_law_purse_here", "_law_menu"] cnPick := by
  refine D.cal scLPick (fun _ _ _ _ _ _ us hl => len2 us hl fun _ _ => rfl) (by decide) (fun rs μ r μ' h => by obtain ⟨_, _, _, _, _, _, _, rfl⟩ := h; simp) fun f cdv A outer s H E hr rs μ r μ' hC => ?_
  obtain ⟨k, p, m, ds, rfl, ⟨hk, hp, hm, m1, m2⟩, rfl, rfl⟩ := hC
  obtain ⟨d0, d1, _⟩ := G.draw_ok (m := ds.length) hp (by omega)
  have hg := G.nth_some (d := PyData.none) (l := ds) d0 d1
  have hg2 : atI ds (G.draw ds.length p).1 = some (G.pick .none ds p).1 := by
    have := at_nat hg
    rwa [show (((G.draw ds.length p).1.toNat : Nat) : Int) = (G.draw ds.length p).1 by omega] at this
  rcases hm with rfl | ⟨s, rfl, rfl, hs⟩
  · exact ST.retP (ixL (nm 1) (EV.call C1 hr (AV.cons (nm 0) (AV.cons (bLenL T (nm 1)) AV.nil)) ⟨k, p, _, rfl, ⟨hk, hp, by omega, by omega⟩, rfl, rfl⟩) hg2) rfl take_set
  · have hl : (strD s).length = s.length := by
      unfold strD
      rw [List.length_map]
      rfl
    rw [hl] at hg2 m1 m2
    obtain ⟨c, hc, e⟩ : ∃ c, atI s.cps.toList (G.draw s.length p).1 = some c ∧ (G.pick .none (strD s) p).1 = .str ⟨#[c]⟩ := by
      have hx := hg
      rw [hl] at hx
      unfold strD at hx
      rw [List.getElem?_map] at hx
      cases q : s.cps.toList[(G.draw s.length p).1.toNat]? with
      | none => rw [q] at hx; cases hx
      | some c =>
        rw [q] at hx
        refine ⟨c, ?_, ?_⟩
        · have := at_nat q
          rwa [show (((G.draw s.length p).1.toNat : Nat) : Int) = (G.draw s.length p).1 by rw [hl] at d0; omega] at this
        · have e2 : (G.pick .none (strD s) p).1 = G.nth .none (strD s) (G.draw s.length p).1 := by
            unfold G.pick
            rw [hl]
          rw [e2]
          simpa [strD] using hx.symm
    rw [e]
    have e3 : (G.pick PyData.none (strD s) p).2 = (G.draw s.length p).2 := by
      unfold G.pick
      rw [hl]
    rw [e3]
    exact ST.retP (ixS (nm 1) (EV.call C1 hr (AV.cons (nm 0) (AV.cons (bLenS T (nm 1) (sz (by omega))) AV.nil)) ⟨k, p, _, rfl, ⟨hk, hp, by omega, by omega⟩, rfl, rfl⟩) (sz (by omega)) hc) rfl take_set
end
end J
namespace J
open PySem PySem.Spec
open PyProof.Rows L2
structure FnG (P : Program) (w : World) (K : PySem.W.Frag) (mg : Str → Option Value) (base : Heap) (k : Nat) (f : Addr) (fd : FuncData) (ps : List Str) (sp : Sp) : Prop where
  many : ∀ xs G R E, sp xs G R E → xs.length = ps.length
  go : ∀ (B : Around) (st : List Env) (t : Shared) (G : Hp) (ar : Args) (ws : List Value) (xs : List V) (R : VK) (E : XK), B.guards = some [] → Room k B → Env0 P w K mg base B st t G → BindsTo t fd ar (ps.zip ws) → Vals xs ws → sp xs G R E → codeAny (model P w) B (.call (.ref f) ar) (CR CX0 st P w G t R E) t
section
variable {w : World} {P : Program} {K : PySem.W.Frag} {base : Heap} {mg : Str → Option Value}
theorem fnG_of {k : Nat} {f : Addr} {nm0 qual : Str} {prm : Arguments} {bd : List Stmt} {scp : Scope} {dV kV doc pm cdv ct oc : Value} {an od : Option Addr} {osl : Array (Option Value)} {N ps : List Str} {sp : Sp}
    (look : K.lookup f = some ⟨oc, od, .func (PySem.W.fnOf nm0 qual prm bd scp dV kV doc pm an cdv ct), osl⟩) (code : PySem.W.codeIn K cdv qual = true) (Sc : FnScope N ps scp) (many : ∀ xs G R E, sp xs G R E → xs.length = ps.length)
    (hb : ∀ (B : Around) (st : List Env) (t : Shared) (G : Hp) (xs : List V) (R : VK) (E : XK), B.guards = some [] → Room k (B.deeper (envOfC qual scp t.heap.objs.size f cdv)) → sp xs G R E → ∃ T, PSs (cxOf CX0 P w K mg base N qual scp f cdv B st t G E) bd T ∧ T { nx := fun _ G' => R .non G', rt := R } (L2.start N xs) G) :
    FnG P w K mg base (k + 1) f (PySem.W.fnOf nm0 qual prm bd scp dV kV doc pm an cdv ct) ps sp := by
  refine ⟨many, fun B st t G ar ws xs R E hgd room e0 bind vals hsp => ?_⟩
  have hlen := many _ _ _ _ hsp
  have inK : K.In t.heap := e0.mod.kin.keeps fun a o z => (e0.bs a o z).1
  have noL : t.heap.NoLimit := e0.mod.nolimit.keeps fun a o z => (e0.bs a o z).1
  refine codeAny_call_function room.depth (inK _ _ look) rfl Sc.co Sc.gen rfl (PySem.W.codeRec_of inK code) (bind _ _ _ _ ?_)
  refine wpAny_newFunctionEnv_cells Sc.kind (fun ⟨n, v⟩ hy => ?_) fun env he t1 x => ?_
  · rcases Sc.par n (List.of_mem_zip hy).1 with z | z
    · exact Or.inl z
    · exact Or.inr ⟨z, PySem.W.cellsFrom_some _ _ _ (Or.inl z)⟩
  subst he
  refine ⟨noL.keeps x.toInCall.keep, codeAny_func ?_⟩
  obtain ⟨T, hT, hr⟩ := hb B st t G xs R E hgd (room.deeper _) hsp
  have I : Inv (cxOf CX0 P w K mg base N qual scp f cdv B st t G E) [] (L2.start N xs) G t1 := inv_start Sc room.hd e0 hlen vals x
  have done : ∀ {σ' : L2.St} {G' : Hp} {v : V} {u : Value} {t' : Shared}, Inv (cxOf CX0 P w K mg base N qual scp f cdv B st t G E) [] σ' G' t' → RelV v u → R v G' → CE st P w G t R u t' := fun {σ' G' v u t'} J rv hq => ⟨v, G', J.os, J.bare, J.base, J.hok, rv, hq⟩
  refine wpAny_mono (hT.run [] t1 (L2.start N xs) G _ I hr) (fun fl t' hs => ?_) fun e t' hs => hs
  match fl, hs with
  | .ret u, hs =>
    obtain ⟨v, σ', G', J, rv, hq⟩ := hs
    exact done J rv hq
  | .next, hs =>
    obtain ⟨σ', G', J, hq⟩ := hs
    exact done (v := V.non) (u := Value.none) J rfl hq
  | .brk, hs =>
    obtain ⟨_, _, _, hq⟩ := hs
    exact hq.elim
  | .cont, hs =>
    obtain ⟨_, _, _, hq⟩ := hs
    exact hq.elim
theorem funG {x qual : Str} {st : Stmt} {f : Addr} {fd : FuncData} {N ps : List Str} {k : Nat} {sp : Sp} (F : Fun K x qual st f fd) (Sc : FnScope N ps (defScope st)) (many : ∀ xs G R E, sp xs G R E → xs.length = ps.length)
    (hb : ∀ (cdv : Value) (B : Around) (o : List Env) (t : Shared) (G : Hp) (xs : List V) (R : VK) (E : XK), B.guards = some [] → Room k (B.deeper (envOfC qual (defScope st) t.heap.objs.size f cdv)) → sp xs G R E →
      ∃ T, PSs (cxOf CX0 P w K mg base N qual (defScope st) f cdv B o t G E).nox (defBody st) T ∧ T { nx := fun _ G' => R .non G', rt := R } (L2.start N xs) G) : FnG P w K mg base (k + 1) f fd ps sp := by
  obtain ⟨oc, od, kV, doc, pm, an, cdv, ct, osl, rfl, lk, hcd⟩ := F.ex
  refine fnG_of lk hcd Sc many fun B o t G xs R E hgd room hsp => ?_
  obtain ⟨T, hT, hq⟩ := hb cdv B o t G xs R E hgd room hsp
  exact ⟨T, hT.nox, hq⟩
noncomputable def SpF (K : PySem.W.Frag) (ps : List Str) (C : List Ent → Sto → List PyData → Prop) : Sp := fun vs H Q _ => ∃ w μ rs xs, Mem K H w μ ∧ Vas K H w vs rs ∧ rs.length = ps.length ∧ C rs μ xs ∧
  ∀ p H' us, Mem K H' (wk' w p) μ → Fr w.α H H' → Nw H p → H' p = some (.lst us) → DqAll (dl H' (wk' w p).all) us xs → Q (.ref p) H'
structure CalF (P : Program) (w : World) (K : PySem.W.Frag) (mg : Str → Option Value) (base : Heap) (n : Str) (k : Nat) (ps : List Str) (C : List Ent → Sto → List PyData → Prop) : Prop where
  ex : ∃ f fd, FnOk P w K mg base CX0 k f fd ps (SpF K ps C) ∧ mg n = some (.ref f) ∧ PySem.W.keepIn K (.ref f) = true ∧ Binds K fd ps []
end
theorem fresh_of {w : Wd} {H H' : Hp} {K : PySem.W.Frag} {μ : Sto} {p : Addr} (m1 : Mem K H' w μ) (f : Fr w.α H H') (hp : Nw H' p) : Nw H p := Nw.back f hp fun z => m1.freshN hp (List.mem_append_left _ z)
theorem Mem.adopt {K : PySem.W.Frag} {H : Hp} {w : Wd} {p : Addr} {μ : Sto} {us : List V} {xs : List PyData} (m : Mem K H (wk' w p) μ) (hx : p ∉ w.ξ) (e : H p = some (.lst us)) (hd : DqAll (dl H (wk' w p).all) us xs) :
    Mem K H (w.add [p]) (μ ++ [xs]) := by
  have sub : Same (dl H (wk' w p).all) (dl H (w.add [p]).all) := dl_sub fun b hb => by
    rw [all_wk']
    simp only [Wd.all, List.mem_append, List.mem_cons, List.not_mem_nil, or_false] at hb ⊢
    rcases hb with (h | h) | h
    · exact .inr (.inl h)
    · exact .inl h
    · exact .inr (.inr h)
  have pn : p ∉ w.α := m.out p List.mem_cons_self
  have l1 : w.α.length = μ.length := m.len
  refine ⟨List.nodup_append.mpr ⟨m.nd, by simp, fun a h b h' => by simp at h'; subst h'; exact fun z => pn (z ▸ h)⟩, by simp [l1], fun k a ys h1 h2 => ?_, fun b hb z => ?_, fun b hb => m.ext b (List.mem_cons_of_mem _ hb), m.tab⟩
  · by_cases hk : k < w.α.length
    · obtain ⟨vs, e', hd'⟩ := m.cell k a ys (by rwa [List.getElem?_append_left hk] at h1) (by rwa [List.getElem?_append_left (by omega)] at h2)
      exact ⟨vs, e', dqAll_mono sub _ _ hd'⟩
    · rw [List.getElem?_append_right (by omega)] at h1 h2
      rw [l1] at h1
      cases hj : k - μ.length with
      | zero =>
        rw [hj] at h1 h2
        simp at h1 h2
        subst h1
        subst h2
        exact ⟨us, e, dqAll_mono sub _ _ hd⟩
      | succ j =>
        rw [hj] at h1
        simp at h1
  · rcases List.mem_append.mp z with z | z
    · exact m.out b (List.mem_cons_of_mem _ hb) z
    · have : b = p := by simpa using z
      subst this
      exact hx hb
section
variable {X : Cx} {ρ : REnv} {μ μ1 μ2 : Sto} {e : Expr} {es : List Expr} {pos p : Pos} {rs : List Ent} {xs ys : List PyData} {n : Str} {k : Nat} {ps : List Str}
theorem EVF.call {C : List Ent → Sto → List PyData → Prop} (F : CalF X.prog X.w X.K X.mg X.base n k ps C) (hr : Room k X.A) (ha : AV X (e :: es) ρ μ rs μ1) (hC : C rs μ1 xs) (hl : rs.length = ps.length := by rfl)
    (hg : Gl X n := by rfl) (hdb : (n == ("__debug__" : Str)) = false := by decide) (he : starEach (e :: es) X.env = (false, eval e X.env) :: starEach es X.env := by rfl) (hpl : (backTo pos (starEach es X.env)).any (·.1) = false := by rfl) :
    EVF X (.Call (.Name n p) (e :: es) [] pos) ρ μ xs μ1 := by
  intro w σ H m s Q q
  obtain ⟨f, fd, G, hm, hk, hb⟩ := F.ex
  refine ⟨_, pe_call (E := E0) G hr hg hm hk hb .nil pass0 (p_ax (e := e :: es)) hdb he hpl, ?_⟩
  refine ha w σ H m s _ fun vs H1 m1 f1 h1 => ?_
  exact ⟨w, μ1, rs, xs, m1, by rw [List.append_nil]; exact h1, hl, hC, fun p H' us m2 f2 hp e2 hd => q p H' us m2 (f1.trans f2) (fresh_of m1 f1 hp) e2 hd⟩
theorem runG {pins : List (Addr × Obj)} {σ : L2.St} {H : Hp} {s : Shared} {Q : VK} {us : List Value} {vs : List V} {f : Addr} {fd : FuncData} {sp : Sp} (F : FnG X.prog X.w X.K X.mg X.base k f fd ps sp) (hgd : X.A.guards = some []) (hr : Room k X.A) (hb : Binds X.K fd ps []) (I : Inv X pins σ H s) (r : Vals vs us) (h : sp vs H Q E0) : wpAny (model X.prog X.w) X.A (call (.ref f) us) (EP X pins σ Q) X.xe s := by
  have hl : us.length = ps.length := r.length.symm.trans (F.many _ _ _ _ h)
  have hb2 := hb s us I.kIn (by rw [List.append_nil]; exact hl)
  rw [List.append_nil] at hb2
  refine wpAny_call (codeAny_mono (F.go X.A X.stack s H ⟨us, []⟩ us vs Q E0 hgd hr I.env0 hb2 r h) fun rr t hq => ?_)
  match rr, hq with
  | .ok (.ret u), hq => exact I.after hq
end
mutual
noncomputable def rlen : PyData → Nat
  | .none => 4
  | .bool _ => 5
  | .int i => ((toString i : String) : Str).length
  | .str x => 10 * x.length + 2
  | .list xs => 3 + rlenAll xs
  | .tuple xs => 3 + rlenAll xs
  | .dict _ => 0
noncomputable def rlenAll : List PyData → Nat
  | [] => 0
  | x :: xs => rlen x + 2 + rlenAll xs
end
theorem join_sum (sep : Str) : ∀ ys : List Str, (Str.join sep ys).length ≤ (ys.map fun y => y.length + sep.length).sum
  | [] => Nat.zero_le _
  | [x] => by
    show x.length ≤ _
    simp
  | x :: z :: r => by
    have := join_sum sep (z :: r)
    show (x ++ sep ++ Str.join sep (z :: r)).length ≤ _
    rw [strLen_append, strLen_append, List.map_cons, List.sum_cons]
    omega
theorem strOk_lt {x : Str} (h : PyData.strOk x = true) : ∀ c ∈ x.cps.toList, c < 16 ^ 8 := by
  unfold PyData.strOk at h
  rw [← Array.all_toList, List.all_eq_true] at h
  intro c hc
  have := of_decide_eq_true (h c hc)
  omega
mutual
theorem shown_le : ∀ d : PyData, d.canLay0 = true → d.shown.length ≤ rlen d
  | .none, _ => by rw [PyData.shown_none]; decide
  | .bool b, _ => by rw [PyData.shown_bool]; cases b <;> decide
  | .int i, _ => by rw [PyData.shown_int]; exact Nat.le_refl _
  | .str x, h => by
    rw [PyData.shown_str]
    simp only [PyData.canLay0] at h
    exact StrLaws.reprText_len x (strOk_lt h)
  | .list xs, h => by
    simp only [PyData.canLay0] at h
    have h1 := shownAll_le xs h
    have h2 := join_sum ", " (PyData.shownAll xs)
    rw [PyData.shown_list, strLen_append, strLen_append]
    have e1 : ((("[" : String) : Str)).length = 1 := by decide
    have e2 : ((("]" : String) : Str)).length = 1 := by decide
    have e3 : (((", " : String) : Str)).length = 2 := by decide
    rw [e3] at h2
    simp only [rlen]
    omega
  | .tuple xs, h => by
    simp only [PyData.canLay0] at h
    have h1 := shownAll_le xs h
    have h2 := join_sum ", " (PyData.shownAll xs)
    rw [PyData.shown_tuple, strLen_append, strLen_append]
    have e1 : ((("(" : String) : Str)).length = 1 := by decide
    have e2 : ((((if xs.length == 1 then ",)" else ")" : String) : Str))).length ≤ 2 := by split <;> decide
    have e3 : (((", " : String) : Str)).length = 2 := by decide
    rw [e3] at h2
    simp only [rlen]
    omega
  | .dict _, h => by simp [PyData.canLay0] at h
theorem shownAll_le : ∀ xs : List PyData, PyData.canLayAll0 xs = true → ((PyData.shownAll xs).map fun y => y.length + 2).sum ≤ rlenAll xs
  | [], _ => by rw [PyData.shownAll_nil]; exact Nat.zero_le _
  | x :: xs, h => by
    simp only [PyData.canLayAll0, Bool.and_eq_true] at h
    have h1 := shown_le x h.1
    have h2 := shownAll_le xs h.2
    rw [PyData.shownAll_cons, List.map_cons, List.sum_cons]
    simp only [rlenAll]
    omega
end
mutual
theorem noDict0 : ∀ d : PyData, d.canLay0 = true → d.hasDict = false
  | .none, _ => rfl
  | .bool b, _ => rfl
  | .int i, _ => rfl
  | .str x, h => rfl
  | .list xs, h => by
    simp only [PyData.canLay0] at h
    simpa only [PyData.hasDict] using noDictAll0 xs h
  | .tuple xs, h => by
    simp only [PyData.canLay0] at h
    simpa only [PyData.hasDict] using noDictAll0 xs h
  | .dict _, h => by simp [PyData.canLay0] at h
theorem noDictAll0 : ∀ xs : List PyData, PyData.canLayAll0 xs = true → PyData.hasDictAll xs = false
  | [], _ => rfl
  | x :: xs, h => by
    simp only [PyData.canLayAll0, Bool.and_eq_true] at h
    simp only [PyData.hasDictAll, noDict0 x h.1, noDictAll0 xs h.2, Bool.or_self]
end
noncomputable def isSeq : PyData → Bool
  | .list _ | .tuple _ => true
  | _ => false
structure Shw (d : PyData) : Prop where
  seq : isSeq d = true
  lay : d.canLay0 = true
  shw : d.showable = true
  dep : d.depth ≤ 60
  len : rlen d ≤ 10000000
theorem EV.reprD {X : Cx} {ρ : REnv} {μ μ1 : Sto} {o : Expr} {d : PyData} {k : Nat} {pos p : Pos} (T : X.mg "repr" = none) (hgd : X.A.guards = some []) (hr : Room k X.A) (ho : EV X o ρ μ (.dat d) μ1) (hd : Shw d) (hg : Gl X "repr" := by rfl) (hs : starEach [o] X.env = (false, eval o X.env) :: starEach [] X.env := by rfl) : EV X (.Call (.Name "repr" p) [o] [] pos) ρ μ (Ss d.shown) μ1 := by
  intro w σ H m s Q q
  have cr : CallR X (.builtin "repr") (fun vs H Q => ∃ a, vs = [V.ref a] ∧ Dp X.K H (.ref a) d ∧ Q (.str d.shown) H) := by
    intro pins s σ H xs us Q I r h
    obtain ⟨a, rfl, hdp, hq⟩ := h
    obtain ⟨u, rfl, ru⟩ := vals1 r
    obtain rfl : u = Value.ref a := ru
    obtain ⟨as, rd⟩ := Dp.reads I d _ _ hdp (show RelV (V.ref a) (Value.ref a) from rfl)
    refine repr_of_reads' rd hd.shw (fun z => by rw [noDict0 d hd.lay] at z; cases z) hgd ?_ (fun _ _ e => e) (fun h' u tk kp => ?_) ?_
    · have h1 := hd.dep
      have h2 := hr.un
      omega
    · exact ⟨.str d.shown, H, I.kept (t' := tk) kp, ⟨u, rfl⟩, hq⟩
    · have := shown_le d hd.lay
      have h2 := hd.len
      exact Nat.le_trans (Nat.le_trans this h2) (by decide)
  refine ⟨_, pe_callB cr hg T (by decide +kernel) (pa_cons (p_ex (e := o)) pa_nil hs) (by decide) (by decide) hs (by rfl), ?_⟩
  refine ho w σ H m s _ fun v H1 m1 f1 h1 => ?_
  have h1' : Dq (dl H1 w.all) v d := h1
  obtain ⟨a, rfl⟩ : ∃ a, v = .ref a := by
    have := hd.seq
    cases d with
    | list ds => cases h1; exact ⟨_, rfl⟩
    | tuple ds => cases h1; exact ⟨_, rfl⟩
    | _ => cases this
  exact ⟨a, rfl, Dq.dp dl_same _ _ h1' hd.lay, q _ H1 m1 f1 (Dq.str _)⟩
end J
namespace J
open PySem PySem.Spec
open PyProof.Rows L2
theorem LCV.run {X : Cx} {ρ : REnv} {μ μ1 : Sto} {tg iter elt : Expr} {scope : Scope} {own : List (Str × Nat)} {α β : Type} {k : Nat} {p : G.Pu} {bs : List β} (h : β → PyData) (g : α → PyData) (f : β → G.Pu → α × G.Pu) (hi : IV X tg iter ρ μ (bs.map h) μ1) (h1 : μ1 = μ1.set k p.ds) (hp : p.ok) (hf : ∀ b ∈ bs, ∀ q, q.ok → (f b q).2.ok)
    (hs : ∀ b ∈ bs, ∀ q, q.ok → ∃ ρ', (∀ s H C cl fp, GV (blkX X scope s H C cl fp) tg (h b) (wipeE ρ (own.map (·.2))) ρ' (own.map (·.2))) ∧ (∀ s H C cl fp, EV (blkX X scope s H C cl fp) elt ρ' (μ1.set k q.ds) (.dat (g (f b q).1)) (μ1.set k (f b q).2.ds)))
    (hl : bs.length ≤ 100000) : LCV X elt tg iter [] scope own ρ μ ((G.run f bs p).1.map g) (μ1.set k (G.run f bs p).2.ds) := by
  have hok : ∀ i, (G.run f (bs.take i) p).2.ok := fun i => (G.run_ok (R := fun _ _ => True) (bs.take i) p (fun b hb q hq => ⟨trivial, hf b (List.mem_of_mem_take hb) q hq⟩) hp).2
  refine LCV.mk hi (fun i acc ν => acc = (G.run f (bs.take i) p).1.map g ∧ ν = μ1.set k (G.run f (bs.take i) p).2.ds) ⟨by simp [G.run], h1⟩ (fun i d acc ν e hI => ?_) (fun acc ν hI => ?_) (by simpa using hl)
  · obtain ⟨rfl, rfl⟩ := hI
    rw [List.getElem?_map] at e
    cases q : bs[i]? with
    | none => rw [q] at e; cases e
    | some b =>
      rw [q] at e
      cases e
      have tk : bs.take (i + 1) = bs.take i ++ [b] := by
        rw [List.take_succ, q]
        rfl
      obtain ⟨ρ', a1, a2⟩ := hs b (List.mem_iff_getElem?.mpr ⟨i, q⟩) _ (hok i)
      refine ⟨ρ', a1, true, _, .inl ⟨rfl, rfl, rfl⟩, iteT ⟨_, _, a2, ?_, ?_⟩⟩
      · rw [tk, G.run_snoc, List.map_append]
        rfl
      · rw [tk, G.run_snoc]
  · rw [List.length_map, List.take_length] at hI
    exact hI
theorem set_same {μ : Sto} {k : Nat} {x : List PyData} (h : μ[k]? = some x) : μ = μ.set k x := by
  obtain ⟨h1, h2⟩ := List.getElem?_eq_some_iff.mp h
  rw [← h2, List.set_getElem_self]
section
variable {w : World} {P : Program} {K : PySem.W.Frag} {base : Heap} {mg : Str → Option Value}
noncomputable def mixC : Int → PyData → Int
  | m, .int x => (m * 30097 + x) % 2147483563
  | m, _ => m
noncomputable def cellOf (ns : List Int) (k : Nat) : Int := match ns[k]? with
  | some v => v
  | none => (cutD (ns.map .int) none (some 8)).foldl mixC (7919 * ((k : Int) + 3) * ((k : Int) + 5))
noncomputable abbrev nLC : List Str := ["_law_script", "_law_k", "_law_mixed", "_law_number"]
theorem scLCell : FnScope nLC ["_law_script", "_law_k"] (defScope sLCell) := ⟨rfl, rfl, rfl, by decide +kernel, rfl, by decide +kernel, by decide +kernel⟩
noncomputable def cnCell : Con := fun rs μ r μ' => ∃ (ns : List Int) (k : Nat), rs = [.scr ns, Ii (k : Int)] ∧ k ≤ 100 ∧ r = Ii (cellOf ns k) ∧ μ' = μ
theorem cCell (T : Bt mg) (D : Df K mg "_law_cell" sLCell) : Cal P w K mg base "_law_cell" 1 ["_law_script", "_law_k"] cnCell := by
  refine D.cal scLCell (fun _ _ _ _ _ _ us hl => len2 us hl fun _ _ => rfl) (by decide) (fun rs μ r μ' h => by obtain ⟨_, _, _, _, _, rfl⟩ := h; rfl) fun f cdv A outer s H E hr rs μ r μ' hC => ?_
  obtain ⟨ns, k, rfl, hk, rfl, rfl⟩ := hC
  refine ST.ifR (tLt (nm 1) (bLenScr T (nm 0))) (fun hb => ?_) (fun hb => ?_)
  · have hb' := of_decide_eq_true hb
    have e : ns[k]? = some ns[k] := by
      have : k < ns.length := by omega
      simp [this]
    have e2 : cellOf ns k = ns[k] := by
      unfold cellOf
      rw [e]
    rw [e2]
    exact ST.retP (ixScr (nm 0) (nm 1) e) rfl
  · have hb' := of_decide_eq_false hb
    have e : ns[k]? = none := by
      have : ns.length ≤ k := by omega
      simp [this]
    have e2 : cellOf ns k = (cutD (ns.map .int) none (some 8)).foldl mixC (7919 * ((k : Int) + 3) * ((k : Int) + 5)) := by
      unfold cellOf
      rw [e]
    rw [e2]
    refine ST.set (i := 2) (oMul (oMul EV.int (oAdd (nm 1) EV.int) (.inl (by decide))) (oAdd (nm 1) EV.int) (.inr (by omega))) scLCell.nd rfl (Or.inl rfl) ?_
    generalize hm : 7919 * ((k : Int) + 3) * ((k : Int) + 5) = m0
    generalize hc : cutD (ns.map .int) none (some 8) = cs
    have hcs : ∀ d ∈ cs, ∃ x, d = .int x := fun d hd => by
      rw [← hc] at hd
      obtain ⟨x, _, rfl⟩ := List.mem_map.mp (List.mem_of_mem_drop (List.mem_of_mem_take hd))
      exact ⟨x, rfl⟩
    refine ST.for_ (is := [3]) (IV.lst (EV.eq (EV.slScr (nm 0) PartV.none (PartV.some EV.int)) (congrArg Ls hc))) (fun i ρ ν => (∃ a, ρ = [some (.scr ns), some (Ii (k : Int)), some (Ii ((cs.take i).foldl mixC m0)), a]) ∧ ν = μ') ⟨⟨none, rfl⟩, rfl⟩ (fun i d ρ ν hd hI => ?_) (fun ρ ν hI => ?_)
    · obtain ⟨⟨a, rfl⟩, rfl⟩ := hI
      obtain ⟨x, rfl⟩ := hcs d (List.mem_iff_getElem?.mpr ⟨i, hd⟩)
      refine ⟨_, GV.name (i := 3) scLCell.nd rfl (Or.inl rfl) (by simp), ?_⟩
      refine ST.set (i := 2) (oMod (bIntI T (oAdd (oMul (nm 2) EV.int (.inr (by decide))) (nm 3))) EV.int (by decide)) scLCell.nd rfl (Or.inl rfl) (ST.nil ⟨⟨some (Ii x), ?_⟩, rfl⟩)
      rw [List.take_succ, hd]
      simp only [Option.toList, List.foldl_append, List.foldl_cons, List.foldl_nil]
      rfl
    · obtain ⟨⟨a, rfl⟩, rfl⟩ := hI
      rw [List.take_length]
      exact ST.retP (nm 2) rfl
noncomputable def absI (n : Int) : Int := if n < 0 then -n else n
noncomputable def purseOf (n : Int) : G.Pu := ⟨absI n % 2147483563, if n < 0 ∨ 1000000000000000000 ≤ absI n then absI n else 0, 0⟩
theorem purse_ok (n : Int) : (purseOf n).ok := by
  refine ⟨Int.emod_nonneg _ (by decide), Int.emod_lt_of_pos _ (by decide), ?_⟩
  have h : 0 ≤ absI n := by
    unfold absI
    split <;> omega
  show 0 ≤ (if _ then absI n else 0)
  split
  · exact h
  · exact Int.le_refl 0
theorem scLPurse : FnScope ["_law_number", "_law_great"] ["_law_number"] (defScope sLPurse) := ⟨rfl, rfl, rfl, by decide +kernel, rfl, by decide +kernel, by decide +kernel⟩
noncomputable def cnPurse : List Ent → Sto → List PyData → Prop := fun rs μ xs => ∃ n : Int, rs = [Ii n] ∧ xs = (purseOf n).ds
theorem cPurse (T : Bt mg) (D : Df K mg "_law_purse" sLPurse) : CalF P w K mg base "_law_purse" 1 ["_law_number"] cnPurse := by
  obtain ⟨f, fd, F, hm⟩ := D.ex
  refine ⟨f, fd, F.ok scLPurse (fun vs H Q E h => ?_) (fun cdv A outer s H vs Q E hr h => ?_), hm, F.kp, F.binds fun _ _ _ _ _ _ us hl => len1 us hl fun _ => rfl⟩
  · obtain ⟨w0, μ, rs, xs, _, hv, hl, _⟩ := h
    exact hv.1.trans hl
  · obtain ⟨w0, μ, rs, xs, m, hv, hl, ⟨n, rfl, rfl⟩, q⟩ := h
    have sl := sl_start (N := ["_law_number", "_law_great"]) (rs := [Ii n]) hv (Nat.le_of_ble_eq_true rfl)
    refine ⟨_, pss_cons (ps_set (i := 1) scLPurse.nd rfl (Or.inl rfl) p_ex rfl (Or.inr rfl)) (pss_one (ps_ret p_ex)), ?_⟩
    refine use_ev (μ := μ) (bAbs T (nm 0)) m sl fun v H1 m1 f1 h1 => ?_
    have s1 := (sl.fr f1).set (i := 1) h1
    refine use_evf (μ := μ) (EVF.lst (ds := (purseOf n).ds) (AV.cons (oMod (bIntI T (nm 1)) EV.int (by decide)) (AV.cons (x := Ii (purseOf n).b) ?_ (AV.cons EV.int AV.nil)))) m1 s1 fun p H2 us m2 f2 hp e2 hd => q p H2 us m2 (f1.trans f2) (fresh_of m1 f1 hp) e2 hd
    refine EV.ifx (k := decide (n < 0) || decide ((10 : Int) ^ (18 : Int).toNat ≤ absI n)) (WV.tv (WV.orP (tLt (nm 0) EV.int) (WV.or1 (tGe (nm 1) (oPow EV.int EV.int ⟨by decide, by decide, by decide⟩))))) (fun hk => EV.eq (nm 1) ?_) (fun hk => EV.eq EV.int ?_)
    · rw [Bool.or_eq_true, decide_eq_true_eq, decide_eq_true_eq] at hk
      have e : (purseOf n).b = absI n := if_pos hk
      rw [e]
      rfl
    · have hk' : ¬ (n < 0 ∨ 1000000000000000000 ≤ absI n) := fun z => by
        rw [Bool.or_eq_false_iff, decide_eq_false_iff_not, decide_eq_false_iff_not] at hk
        exact z.elim hk.1 hk.2
      have e : (purseOf n).b = 0 := if_neg hk'
      rw [e]
theorem nth_map {α β : Type} {d : α} {d' : β} (f : α → β) {l : List α} {i : Int} (h0 : 0 ≤ i) (h1 : i < l.length) : G.nth d' (l.map f) i = f (G.nth d l i) := by
  have a := G.nth_some (d := d') (l := l.map f) h0 (by simpa using h1)
  have b := G.nth_some (d := d) h0 h1
  rw [List.getElem?_map, b] at a
  exact (Option.some.inj a).symm
theorem pick_map {α β : Type} {d : α} {d' : β} (f : α → β) {l : List α} {p : G.Pu} (hp : p.ok) (hl : 0 < l.length) : G.pick d' (l.map f) p = (f (G.pick d l p).1, (G.pick d l p).2) := by
  obtain ⟨h1, h2, _⟩ := G.draw_ok (m := l.length) hp (by omega)
  unfold G.pick
  rw [List.length_map, nth_map (d := d) f h1 h2]
theorem EV.pickS {X : Cx} {ρ : REnv} {μ : Sto} {a b : Expr} {p0 pos : Pos} {k n : Nat} {p : G.Pu} {l : List Str} (C1 : Cal X.prog X.w X.K X.mg X.base "_law_pick" n ["_law_purse_here", "_law_menu"] cnPick) (hr : Room n X.A) (ha : EV X a ρ μ (.ptr k) μ) (hb : EV X b ρ μ (Ls (l.map .str)) μ) (hk : μ[k]? = some p.ds) (hp : p.ok) (h1 : 0 < l.length) (h2 : l.length ≤ 100000)
    (hg : Gl X "_law_pick" := by rfl) (he : starEach [a, b] X.env = (false, eval a X.env) :: starEach [b] X.env := by rfl) (he2 : starEach [b] X.env = (false, eval b X.env) :: starEach [] X.env := by rfl) (hpl : (backTo pos (starEach [b] X.env)).any (·.1) = false := by rfl) : EV X (.Call (.Name "_law_pick" p0) [a, b] [] pos) ρ μ (Ss (G.pick Str.empty l p).1) (μ.set k (G.pick Str.empty l p).2.ds) := by
  have e := pick_map (d := Str.empty) (d' := PyData.none) PyData.str hp h1
  refine EV.call C1 hr (AV.cons ha (AV.cons hb AV.nil he2) he) ⟨k, p, _, l.map .str, rfl, ⟨hk, hp, .inl rfl, by simpa using h1, by simpa using h2⟩, ?_, ?_⟩ rfl hg (by decide) he hpl
  · rw [e]
  · rw [e]
theorem words_split : Txt.split ("join take clear call plan base all last before left right on of a a1 z9" : Str) " " = G.words := by decide +kernel
theorem signs_str : strD (M.letters ++ M.digits) = G.signs.map fun c => .str ⟨#[c]⟩ := rfl
theorem signs_eq : ("abcdefghijklmnopqrstuvwxyz0123456789" : Str) = M.letters ++ M.digits := by decide +kernel
theorem join_nil : ∀ cs : List Nat, TL.joinL [] (cs.map fun c => [c]) = cs
  | [] => rfl
  | [c] => rfl
  | c :: d :: cs => by
    have := join_nil (d :: cs)
    show [c] ++ [] ++ TL.joinL [] ((d :: cs).map fun c => [c]) = _
    rw [this]
    rfl
theorem join_signs (c : Nat) (cs : List Nat) : (⟨#[c]⟩ : Str) ++ Txt.join "" (cs.map fun c => ⟨#[c]⟩) = ⟨(c :: cs).toArray⟩ := by
  have h : Txt.join (SX.S []) ((cs.map fun c => [c]).map SX.S) = SX.S cs := by rw [SX.join_S, join_nil]
  rw [List.map_map] at h
  have h2 : Txt.join "" (cs.map fun c => (⟨#[c]⟩ : Str)) = SX.S cs := h
  rw [h2]
  exact SX.S_cat [c] cs
end
end J
namespace J
open PySem PySem.Spec
open PyProof.Rows L2
section
variable {X : Cx} {W : WX} {ρ : REnv} {μ μ1 μ2 : Sto} {a b e : Expr} {es : List Expr} {pos p p2 : Pos} {xs ys : List PyData} {n : Nat} {P : Out → Prop} {rest : List Stmt}
theorem EVF.lstRg {j : Int} (T : X.mg "list" = none) (T2 : X.mg "range" = none) (hc : X.calm = true) (ha : EV X a ρ μ (Ii j) μ1) (h0 : 0 ≤ j) (h1 : j ≤ 1000) (hg : Gl X "list" := by rfl) (hg2 : Gl X "range" := by rfl)
    (hs : starEach [a] X.env = (false, eval a X.env) :: starEach [] X.env := by rfl) (hs2 : starEach [.Call (.Name "range" p2) [a] [] p] X.env = (false, eval (.Call (.Name "range" p2) [a] [] p) X.env) :: starEach [] X.env := by rfl) {p3 : Pos} : EVF X (.Call (.Name "list" p3) [.Call (.Name "range" p2) [a] [] p] [] pos) ρ μ ((List.range j.toNat).map fun (i : Nat) => PyData.int (0 + (i : Int))) μ1 := by
  intro w σ H m s Q q
  refine ⟨_, pe_listRg hc hg T (prg_1 hg2 T2 (p_ex (e := a)) hs) hs2, ?_⟩
  refine ha w σ H m s _ fun v H1 m1 f1 h1 => ?_
  cases h1
  refine ⟨j, rfl, RgOk.of_le (by decide) (by omega) (by decide) h0, fun l hl => ?_⟩
  have hl0 := fresh_of m1 f1 (Nw.of hl)
  refine q l _ (rgV 0 j) (m1.keep hl) (f1.trans (Fr.of_same (Same.new hl))) hl0 upd_same ?_
  have : ∀ (bs : List Nat), DqAll (dl (upd H1 l (.lst (rgV 0 j))) (wk' w l).all) (bs.map fun i => V.int (0 + (i : Nat))) (bs.map fun (i : Nat) => PyData.int (0 + (i : Int))) := by
    intro bs
    induction bs with
    | nil => exact .nil
    | cons b bs ih => exact .cons (.int _) ih
  have e : j.toNat = (j - 0).toNat := by rw [Int.sub_zero]
  rw [e]
  exact this _
theorem Sl.grow {K : PySem.W.Frag} {H H' : Hp} {w w' : Wd} {σ : L2.St} (h : Sl K H w σ ρ) (f : Same (dl H w.all) (dl H' w'.all)) (g : ∀ (k : Nat) (c : Addr), w.α[k]? = some c → w'.α[k]? = some c) : Sl K H' w' σ ρ := ⟨h.len, fun i r e => by
  obtain ⟨v, hv, hr⟩ := h.at_ i r e
  refine ⟨v, hv, ?_⟩
  match r, hr with
  | .dat d, hr => exact dq_mono f d v hr
  | .ptr k, hr => exact ⟨hr.choose, g _ _ hr.choose_spec.1, hr.choose_spec.2⟩
  | .obj C fs, hr =>
    obtain ⟨x, dx, ws, e, hx, hn, hd⟩ := hr
    exact ⟨x, dx, ws, e, f _ _ hx, hn, dqAll_mono f _ _ hd⟩
  | .raw u, hr => exact hr
  | .exc a d fs, hr =>
    obtain ⟨e, ws, hx, hn, hd⟩ := hr
    exact ⟨e, ws, f _ _ hx, hn, dqAll_mono f _ _ hd⟩
  | .scr ns, hr =>
    obtain ⟨c, e, hs⟩ := hr
    exact ⟨c, e, Same.seq f hs⟩⟩
theorem ST.par2 {i j : Nat} {x y : Str} {px py pt : Pos} {kt k2 pt2} (ha : EVF X a ρ μ xs μ1) (hb : EVF X b ρ μ1 ys μ2) (hN : X.N.Nodup) (hi : X.N[i]? = some x) (hj : X.N[j]? = some y) (hij : i ≠ j)
    (hx : X.env.scope.names.lookup x = some .local) (hy : X.env.scope.names.lookup y = some .local) (hr : ST X W n rest ((ρ.set i (some (.ptr (μ2.length + 1)))).set j (some (.ptr μ2.length))) (μ2 ++ [ys] ++ [xs]) P)
    (hw : swappedStores [.Tuple [.Name x px, .Name y py] kt pt] (.Tuple [a, b] k2 pt2) X.env = pure (some [x, y])) (hc : X.calm = true := by rfl)
    (hs : swapsWithSole [.Tuple [.Name x px, .Name y py] kt pt] (.Tuple [a, b] k2 pt2) pos.line X.env = pure false := by rfl) (he : starEach [a, b] X.env = (false, eval a X.env) :: starEach [b] X.env := by rfl) (he2 : starEach [b] X.env = (false, eval b X.env) :: starEach [] X.env := by rfl) : ST X W n (.Assign [.Tuple [.Name x px, .Name y py] kt pt] (.Tuple [a, b] k2 pt2) pos :: rest) ρ μ P := by
  intro w σ H D hn m s q
  refine ⟨_, pss_cons (ps_par hc hN hi hj hij hx hy (pa_cons (p_ex (e := a)) (pa_cons (p_ex (e := b)) pa_nil he2) he) hw hs) p_sx, ?_⟩
  refine ha w σ H m s _ fun c1 H1 us m1 f1 hc1 e1 hd1 => ?_
  have g1 : Same (dl H w.all) (dl H1 (wk' w c1).all) := keep_outN (K := X.K) hc1 f1 ⟨_, e1⟩
  refine hb (wk' w c1) σ H1 m1 (s.same2 g1) _ fun c2 H2 vs m2 f2 hc2 e2 hd2 => ?_
  have g2 : Same (dl H1 (wk' w c1).all) (dl H2 (wk' (wk' w c1) c2).all) := keep_outN (K := X.K) hc2 f2 ⟨_, e2⟩
  have n1 : c1 ∉ w.all := m.freshN hc1
  have n2 : c2 ∉ (wk' w c1).all := m1.freshN hc2
  have e1' : H2 c1 = some (.lst us) := f2 c1 _ e1 (fun z => n1 (List.mem_append_left _ z)) (fun q z => by cases z)
  have hd1' : DqAll (dl H2 (wk' (wk' w c1) c2).all) us xs := dqAll_mono g2 _ _ hd1
  have a1 : Mem X.K H2 ((wk' w c1).add [c2]) (μ2 ++ [ys]) := m2.adopt (fun z => n2 (List.mem_append_right _ z)) e2 hd2
  have all1 : ∀ c, c ∈ ((wk' w c1).add [c2]).all → c ∈ (wk' (wk' w c1) c2).all := fun c hc => by
    rw [all_wk', all_wk']
    simp only [Wd.all, List.mem_append, List.mem_cons, List.not_mem_nil, or_false] at hc ⊢
    rcases hc with (h | h) | (h | h)
    · exact .inr (.inr (.inl h))
    · exact .inl h
    · exact .inr (.inl h)
    · exact .inr (.inr (.inr h))
  have a2 : Mem X.K H2 ((w.add [c2]).add [c1]) (μ2 ++ [ys] ++ [xs]) := Mem.adopt (w := w.add [c2]) a1 (fun z => n1 (List.mem_append_right _ z)) e1' (dqAll_mono (dl_sub all1) _ _ hd1')
  have f12 : Fr w.α H H2 := f1.trans f2
  have al : w.add [c2, c1] = (w.add [c2]).add [c1] := by simp [Wd.add]
  have sl : Sl X.K H2 ((w.add [c2]).add [c1]) σ ρ := by
    refine s.grow ((g1.trans g2).trans (dl_sub fun c hc => ?_)) fun k c hk => ?_
    · rw [all_wk', all_wk']
      simp only [Wd.all, List.mem_append, List.mem_cons, List.not_mem_nil, or_false] at hc ⊢
      rcases hc with ((h | h) | h) | h
      · exact .inr (.inr (.inl h))
      · exact .inl h
      · exact .inr (.inl h)
      · exact .inr (.inr (.inr h))
    · have hk' := (List.getElem?_eq_some_iff.mp hk).1
      show ((w.α ++ [c2]) ++ [c1])[k]? = some c
      rw [List.getElem?_append_left (by simp; omega), List.getElem?_append_left hk']
      exact hk
  have l2 : w.α.length = μ2.length := m2.len
  refine ⟨.ref c1, .ref c2, rfl, hr ((w.add [c2]).add [c1]) _ H2 D (by simp; omega) a2 ((sl.set (v := .ref c1) (r := .ptr (μ2.length + 1)) ⟨c1, ?_, rfl⟩).set (v := .ref c2) (r := .ptr μ2.length) ⟨c2, ?_, rfl⟩) fun o ho => ?_⟩
  · show ((w.α ++ [c2]) ++ [c1])[μ2.length + 1]? = some c1
    rw [List.getElem?_append_right (by simp; omega)]
    simp [l2]
  · show ((w.α ++ [c2]) ++ [c1])[μ2.length]? = some c2
    rw [List.getElem?_append_left (by simp; omega), List.getElem?_append_right (by omega)]
    simp [l2]
  · rw [← al]
    refine Fin.grow (q o ho) hn f12 fun c hc => ?_
    rcases List.mem_cons.mp hc with rfl | hc
    · exact fresh_of m1.unkeep f1 hc2
    · have : c = c1 := by simpa using hc
      rw [this]
      exact hc1
end
end J
namespace J
open PySem PySem.Spec
open PyProof.Rows L2
end J
namespace J
open PySem PySem.Spec
open PyProof.Rows L2
end J
namespace J
open PySem PySem.Spec
open PyProof.Rows L2
section
variable {X : Cx} {ρ : REnv} {μ μ1 μ2 μ3 : Sto} {a b o : Expr} {pos p p2 : Pos} {C : Addr} {fs gs : List (Str × PyData)} {k : Nat} {cn : Con} {n : Str}
theorem EV.isC (c : C8.InsC X.K C) (T : X.mg "isinstance" = none) (hm : X.mg n = some (.ref C)) (ho : EV X o ρ μ (.obj C fs) μ1) (hg : Gl X "isinstance" := by rfl) (hgT : Gl X n := by rfl) (hdb : (n == ("__debug__" : Str)) = false := by decide)
    (he : starEach [o, .Name n p2] X.env = (false, eval o X.env) :: starEach [.Name n p2] X.env := by rfl) (he2 : starEach [.Name n p2] X.env = (false, eval (.Name n p2) X.env) :: starEach [] X.env := by rfl) (hpl : (backTo pos (starEach [.Name n p2] X.env)).any (·.1) = false := by rfl) : EV X (.Call (.Name "isinstance" p) [o, .Name n p2] [] pos) ρ μ (Bb true) μ1 := by
  intro w σ H m s Q q
  refine ⟨_, pe_callB (C8.call_isC c) hg T (by decide +kernel) (pa_cons (p_ex (e := o)) (pa_cons (pe_glob (v := .ref C) hgT hm rfl hdb) pa_nil he2) he) (by decide) (by decide) he hpl, ?_⟩
  refine ho w σ H m s _ fun v H1 m1 f1 h1 => ?_
  obtain ⟨x, dx, ws, rfl, hx, hn, hd⟩ := h1
  exact ⟨x, dx, ws, rfl, (dl_some hx).2, q _ H1 m1 f1 (Dq.bl true)⟩
variable {e1 e2 e3 : Expr} {m : Str} {ks ps : List Str} {apos q1 q2 q3 : Pos} {k1 k2 k3 : Str} {r1 r2 r3 r : Ent} {μ4 μ5 : Sto}
end
end J
namespace J
open PySem PySem.Spec
open PyProof.Rows L2
end J
namespace J
open PySem PySem.Spec
open PyProof.Rows L2
end J
namespace J
open PySem PySem.Spec
open PyProof.Rows L2
noncomputable abbrev ConP := List Ent → Sto → (Ent → Sto → Prop) → Prop
noncomputable def SpP (K : PySem.W.Frag) (ps : List Str) (C : ConP) : Sp := fun vs H Q _ => ∃ w μ rs Φ, Mem K H w μ ∧ Vas K H w vs rs ∧ rs.length = ps.length ∧ C rs μ Φ ∧ ∀ r μ' v H', Φ r μ' → Mem K H' w μ' → Fr w.α H H' → Val K H' w v r → Q v H'
structure CalGP (P : Program) (w : World) (K : PySem.W.Frag) (mg : Str → Option Value) (base : Heap) (n : Str) (k : Nat) (ps : List Str) (C : ConP) : Prop where
  ex : ∃ f fd, FnG P w K mg base k f fd ps (SpP K ps C) ∧ mg n = some (.ref f) ∧ PySem.W.keepIn K (.ref f) = true ∧ Binds K fd ps []
noncomputable def PostP (Φ : Ent → Sto → Prop) : Out → Prop
  | .ret r μ' => Φ r μ'
  | _ => False
theorem ST.retQ {X : Cx} {W : WX} {n : Nat} {ρ : REnv} {μ ν : Sto} {e : Expr} {sts : List Stmt} {pos : Pos} {r : Ent} {Φ : Ent → Sto → Prop} (h : EV X e ρ μ r ν) (hΦ : Φ (frz n ν r) (ν.take n)) : ST X W n (.Return (some e) pos :: sts) ρ μ (PostP Φ) := ST.ret h hΦ
section
variable {X : Cx} {ρ : REnv} {μ μ1 μ2 : Sto} {e : Expr} {es : List Expr} {pos p : Pos} {rs : List Ent} {xs : List PyData} {n : Str} {k : Nat} {ps : List Str}
theorem EV.callNewP {C : ConP} {b : Bool} {x1 : Str} {Φ : Ent → Sto → Prop} (F : CalGP X.prog X.w X.K X.mg X.base n k [x1] C) (hgd : X.A.guards = some []) (hr : Room k X.A) (ha : EVF X e ρ μ xs μ1) (hC : C [.ptr μ1.length] (μ1 ++ [xs]) Φ) (hΦ : ∀ r μ', Φ r μ' → r = Bb b ∧ ∃ ys, μ' = μ1 ++ [ys])
    (hg : Gl X n := by rfl) (hdb : (n == ("__debug__" : Str)) = false := by decide) (he : starEach [e] X.env = (false, eval e X.env) :: starEach [] X.env := by rfl) (hpl : (backTo pos (starEach [] X.env)).any (·.1) = false := by rfl) :
    EV X (.Call (.Name n p) [e] [] pos) ρ μ (Bb b) μ1 := by
  intro w σ H m s Q q
  obtain ⟨f, fd, G, hm, hk, hb⟩ := F.ex
  refine ⟨tCall (SpP X.K [x1] C) [] E0 (tCons (EX X e) tNil), ⟨fun pins s0 σ0 H0 Q0 I h => ?_⟩, ?_⟩
  · refine wpAny_Call_Name_kw (ld_glob I hg hm ?_ hdb)
    refine PySem.W.callWith_K (h₀ := X.base) I.ok.mod.kin hk (thn ((pa_cons (p_ex (e := e)) pa_nil he).run pos pins s0 σ0 H0 _ I h) fun us s1 ⟨vs, H1, I1, r, z⟩ => ⟨I1.kIn, ?_⟩) he hpl
    have z' : SpP X.K [x1] C (vs ++ []) H1 Q0 E0 := z
    rw [List.append_nil] at z'
    exact runG G hgd hr hb I1 r z'
  · refine ha w σ H m s _ fun p0 H1 us m1 f1 hp e1 hd => ?_
    have hx : p0 ∉ w.ξ := fun z => m.freshN hp (List.mem_append_right _ z)
    have hl1 : w.α.length = μ1.length := m1.len
    have hw : (w.add [p0]).cut w.α.length = w := by
      rw [take_add (Nat.le_refl _)]
      show (⟨w.α.take w.α.length, w.ξ⟩ : Wd) = w
      rw [List.take_length]
    refine ⟨w.add [p0], μ1 ++ [xs], [.ptr μ1.length], Φ, m1.adopt hx e1 hd, .cons ⟨p0, ?_, rfl⟩ .nil, rfl, hC, fun r μ' v H2 hr2 m2 f2 h2 => ?_⟩
    · rw [List.getElem?_append_right (by omega), hl1]
      simp
    · obtain ⟨rfl, ys, rfl⟩ := hΦ r μ' hr2
      have mm := m2.cut w.α.length
      rw [hw, hl1, List.take_left] at mm
      cases h2
      refine q _ H2 mm (fun c o hc hn nt => f2 c o (f1 c o hc hn nt) (fun z => ?_) nt) (Dq.bl b)
      rcases List.mem_append.mp z with z | z
      · exact hn z
      · have : c = p0 := by simpa using z
        exact hp o (this ▸ hc) nt
end
end J
namespace J
open PySem PySem.Spec
open PyProof.Rows L2
noncomputable abbrev CDraw (P : Program) (w : World) (K : PySem.W.Frag) (mg : Str → Option Value) (base : Heap) := Cal P w K mg base "_law_draw" 1 ["_law_purse_here", "_law_many"] cnDraw
noncomputable abbrev CPick (P : Program) (w : World) (K : PySem.W.Frag) (mg : Str → Option Value) (base : Heap) := Cal P w K mg base "_law_pick" 2 ["_law_purse_here", "_law_menu"] cnPick
theorem sset {μ : Sto} {k : Nat} {a b : List PyData} : (μ.set k a).set k b = μ.set k b := by rw [List.set_set]
theorem EV.draw {X : Cx} {ρ : REnv} {μ : Sto} {a b : Expr} {p0 pos : Pos} {k n : Nat} {p : G.Pu} {m : Int} (C1 : Cal X.prog X.w X.K X.mg X.base "_law_draw" 1 ["_law_purse_here", "_law_many"] cnDraw) (hr : Room n X.A) (ha : EV X a ρ μ (.ptr k) μ) (hb : EV X b ρ μ (Ii m) μ) (hk : μ[k]? = some p.ds) (hp : p.ok) (h1 : 0 < m := by decide) (h2 : m ≤ 100000 := by decide) (hn : 1 ≤ n := by decide)
    (hg : Gl X "_law_draw" := by rfl) (he : starEach [a, b] X.env = (false, eval a X.env) :: starEach [b] X.env := by rfl) (he2 : starEach [b] X.env = (false, eval b X.env) :: starEach [] X.env := by rfl) (hpl : (backTo pos (starEach [b] X.env)).any (·.1) = false := by rfl) : EV X (.Call (.Name "_law_draw" p0) [a, b] [] pos) ρ μ (Ii (G.draw m p).1) (μ.set k (G.draw m p).2.ds) :=
  EV.call C1 (hr.mono hn) (AV.cons ha (AV.cons hb AV.nil he2) he) ⟨k, p, m, rfl, ⟨hk, hp, h1, h2⟩, rfl, rfl⟩ rfl hg (by decide) he hpl
theorem EV.drawE {X : Cx} {ρ : REnv} {μ : Sto} {a b : Expr} {p0 pos : Pos} {k n : Nat} {p q : G.Pu} {m i : Int} (C1 : Cal X.prog X.w X.K X.mg X.base "_law_draw" 1 ["_law_purse_here", "_law_many"] cnDraw) (hi : (G.draw m p).1 = i) (hq : (G.draw m p).2 = q) (hr : Room n X.A) (ha : EV X a ρ μ (.ptr k) μ) (hb : EV X b ρ μ (Ii m) μ) (hk : μ[k]? = some p.ds) (hp : p.ok) (h1 : 0 < m := by decide) (h2 : m ≤ 100000 := by decide) (hn : 1 ≤ n := by decide)
    (hg : Gl X "_law_draw" := by rfl) (he : starEach [a, b] X.env = (false, eval a X.env) :: starEach [b] X.env := by rfl) (he2 : starEach [b] X.env = (false, eval b X.env) :: starEach [] X.env := by rfl) (hpl : (backTo pos (starEach [b] X.env)).any (·.1) = false := by rfl) : EV X (.Call (.Name "_law_draw" p0) [a, b] [] pos) ρ μ (Ii i) (μ.set k q.ds) := by
  subst hi
  subst hq
  exact EV.draw C1 hr ha hb hk hp h1 h2 hn hg he he2 hpl
theorem ap_set {μ : Sto} {k : Nat} {x : List PyData} {rest : Sto} (h : k < μ.length) : (μ ++ rest).set k x = μ.set k x ++ rest := by rw [List.set_append_left _ _ h]
theorem ap_get {μ : Sto} {k : Nat} {rest : Sto} (h : k < μ.length) : (μ ++ rest)[k]? = μ[k]? := List.getElem?_append_left h
theorem at_last {μ : Sto} {x : List PyData} {rest : Sto} : (μ ++ x :: rest)[μ.length]? = some x := by simp
theorem set_last {μ : Sto} {x y : List PyData} {rest : Sto} : (μ ++ x :: rest).set μ.length y = μ ++ y :: rest := by simp
theorem EV.st {X : Cx} {ρ : REnv} {μ μ1 μ' : Sto} {e : Expr} {r : Ent} (h : EV X e ρ μ r μ1) (q : μ1 = μ') : EV X e ρ μ r μ' := q ▸ h
theorem seqI {j n : Nat} (h : j < n) : seqIndex? (j : Int) n = some j := by
  have h0 : ¬ ((j : Int) < 0) := by omega
  have h1 : (0 : Int) ≤ (j : Int) := by omega
  have h2 : ((j : Int) < (n : Int)) := by omega
  unfold seqIndex?
  simp [h0, h1, h2]
  try omega
theorem LCV.mapT {X : Cx} {ρ : REnv} {μ μ1 : Sto} {tg iter elt : Expr} {scope : Scope} {own : List (Str × Nat)} {α : Type} {bs : List α} (h : α → PyData) (g : α → PyData) (hi : IV X tg iter ρ μ (bs.map h) μ1)
    (hs : ∀ b ∈ bs, ∃ ρ', (∀ s H C cl fp, GV (blkX X scope s H C cl fp) tg (h b) (wipeE ρ (own.map (·.2))) ρ' (own.map (·.2))) ∧ (∀ s H C cl fp, EV (blkX X scope s H C cl fp) elt ρ' μ1 (.dat (g b)) μ1)) (hl : bs.length ≤ 100000) : LCV X elt tg iter [] scope own ρ μ (bs.map g) μ1 := by
  refine LCV.mk hi (fun i acc ν => acc = (bs.take i).map g ∧ ν = μ1) ⟨by simp, rfl⟩ (fun i d acc ν e hI => ?_) (fun acc ν hI => ?_) (by simpa using hl)
  · obtain ⟨rfl, rfl⟩ := hI
    rw [List.getElem?_map] at e
    cases q : bs[i]? with
    | none => rw [q] at e; cases e
    | some b =>
      rw [q] at e
      cases e
      obtain ⟨ρ', a1, a2⟩ := hs b (List.mem_iff_getElem?.mpr ⟨i, q⟩)
      refine ⟨ρ', a1, true, _, .inl ⟨rfl, rfl, rfl⟩, iteT ⟨_, _, a2, ?_, rfl⟩⟩
      rw [List.take_succ, q]
      simp
  · rw [List.length_map, List.take_length] at hI
    exact hI
theorem IV.eqD {X : Cx} {tg e : Expr} {ρ : REnv} {μ μ1 : Sto} {ds es : List PyData} (h : IV X tg e ρ μ ds μ1) (q : ds = es) : IV X tg e ρ μ es μ1 := q ▸ h
theorem log_dig {i : Int} (h : 0 ≤ i ∧ i ≤ 9) : i.natAbs.log2 < 1920 := log_small (by
  have h1 : i.natAbs ≤ 9 := by omega
  exact Nat.lt_of_le_of_lt h1 (by decide))
end J
namespace J
open PySem PySem.Spec
open PyProof.Rows L2
theorem sky_zc {B : Heap} {l : List Env} {a L : Addr} {cls : Value} {d : Option Addr} {h : Heap} (s : Sky B l a (L2N.Zn cls d) L h) : Sky B l a (Zc cls d) L h := by
  rcases s with ⟨q1, q2, q3, oe, vs, q4, q5, q6⟩ | s | s
  · exact .inl ⟨q1, q2, q3, oe, vs, q4, q5.zc, q6⟩
  · exact .inr (.inl (L2H.flyingZ_imp (fun o z => z.zc) s))
  · exact .inr (.inr ⟨s.1, s.2.1, s.2.2.1, L2H.tracedZ_imp (fun o z => z.zc) s.2.2.2⟩)
theorem okXN {P : Program} {w : World} {K : PySem.W.Frag} {mg : Str → Option Value} {base : Heap} {x qual : Str} {st : Stmt} {f : Addr} {fd : FuncData} {N ps : List Str} {k : Nat} {sp : Sp} (F : Fun K x qual st f fd) (Sc : FnScope N ps (defScope st)) (many : ∀ vs H Q E, sp vs H Q E → vs.length = ps.length)
    (bd : ∀ (cdv : Value) (A : Around) (outer : List Env) (s : Shared) (H : Hp) (vs : List V) (Q : VK) (E : XK), Room k (A.deeper (envOfC qual (defScope st) s.heap.objs.size f cdv)) → sp vs H Q E →
      ∃ T, PSs (cxOf (L2N.CX P w) P w K mg base N qual (defScope st) f cdv A outer s H E) (defBody st) T ∧ T { nx := fun _ G => Q .non G, rt := Q } (start N vs) H) : FnOk P w K mg base (L2N.CX P w) (k + 1) f fd ps sp := by
  obtain ⟨oc, od, kV, doc, pm, an, cdv, ct, osl, rfl, lk, hcd⟩ := F.ex
  exact fn_of lk hcd Sc many fun A outer s H vs Q E room want => bd cdv A outer s H vs Q E room want
theorem takesN {X : Cx} {W : WX} (tk : L2.Takes X W) : L2N.Takes X W := by
  intro u s' h
  obtain ⟨a, B, sI, pins, σ, H, cls, d, e, I, nb, up, sky, h⟩ := h
  exact tk u s' ⟨a, B, sI, pins, σ, H, cls, d, e, I, nb, up, sky_zc sky, h⟩
end J
namespace J
open PySem PySem.Spec
open PyProof.Rows L2
inductive Res where
  | ok (r : Ent) (μ : Sto)
  | rse (C : Addr) (fs : List (Str × PyData)) (μ : Sto)
noncomputable def EndR (K : PySem.W.Frag) (w : Wd) (H : Hp) (σ : L2.St) (W : WX) (Q : VK) : Res → Prop
  | .ok r μ' => ∀ v H', Mem K H' w μ' → Fr w.α H H' → Val K H' w v r → Q v H'
  | .rse C fs μ' => ∀ od H', Mem K H' w μ' → Fr w.α H H' → Xd H' w od fs → W (.ref C) od σ H'
noncomputable def EVR (X : Cx) (W : WX) (e : Expr) (ρ : REnv) (μ : Sto) (o : Res) : Prop := ∀ w σ H, Mem X.K H w μ → Sl X.K H w σ ρ → ∀ Q : VK, EndR X.K w H σ W Q o → EX X e σ H Q
section
variable {X : Cx} {W : WX} {ρ : REnv} {μ μ1 μ2 : Sto} {e c : Expr} {es : List Expr} {pos p p' : Pos} {rs : List Ent} {r : Ent} {o : Res} {n x : Str} {k nn : Nat} {ps : List Str} {C : Addr} {fs : List (Str × PyData)} {P : Out → Prop} {rest : List Stmt}
theorem EVR.ev (h : EVR X W e ρ μ (.ok r μ1)) : EV X e ρ μ r μ1 := fun w σ H m s Q q => h w σ H m s Q q
theorem Xd.sub {H : Hp} {w w' : Wd} {od : Option Addr} (h : Xd H w od fs) (g : ∀ b ∈ w'.all, b ∈ w.all) : Xd H w' od fs := by
  cases od with
  | none => exact h
  | some d =>
    obtain ⟨ws, e, nd, hn, hd⟩ := h
    exact ⟨ws, e, fun z => nd (g d z), hn, dqAll_mono (dl_sub g) _ _ hd⟩
theorem Fin.rse0 {w : Wd} {H H1 : Hp} {D : Ends} {n : Nat} {σ : L2.St} {od : Option Addr} (q : Fin X W n w H D (.rse ρ μ1 C fs)) (m : Mem X.K H1 w μ1) (s : Sl X.K H1 w σ ρ) (f : Fr w.α H H1) (hx : Xd H1 w od fs) : W (.ref C) od σ H1 := by
  have := q od [] σ H1 (by rw [add_nil]; exact m) (by rw [add_nil]; exact s) f (fun b hb => absurd hb (by simp))
  rw [add_nil] at this
  exact this hx
noncomputable def afterR (o : Res) (f : Ent → Sto → Prop) (g : Addr → List (Str × PyData) → Sto → Prop) : Prop := match o with
  | .ok r μ => f r μ
  | .rse C fs μ => g C fs μ
theorem ST.exprR (h : EVR X W e ρ μ o) (hr : afterR o (fun _ μ1 => ST X W nn rest ρ μ1 P) fun C fs μ1 => P (.rse ρ μ1 C fs)) (hs : swapsWith e none pos.line X.env = pure false := by rfl) : ST X W nn (.Expr e pos :: rest) ρ μ P := by
  intro w σ H D hn m s q
  refine ⟨_, pss_cons (ps_expr (p_ex (e := e)) hs) p_sx, ?_⟩
  refine h w σ H m s _ ?_
  cases o with
  | ok r μ1 => exact fun v H1 m1 f1 hv => hr w σ H1 D hn m1 (s.fr f1) fun o ho => (q o ho).step hn f1
  | rse C fs μ1 => exact fun od H1 m1 f1 hx => Fin.rse0 (q _ hr) m1 (s.fr f1) f1 hx
theorem ST.setR {i : Nat} (h : EVR X W e ρ μ o) (hN : X.N.Nodup) (hi : X.N[i]? = some x) (hx : Loc X.env.scope x) (hr : afterR o (fun r μ1 => ST X W nn rest (ρ.set i (some r)) μ1 P) fun C fs μ1 => P (.rse ρ μ1 C fs)) (hs : swapsWith e (some (.Name x p')) pos.line X.env = pure false := by rfl)
    (hf : X.fn x = true ∨ X.env.scope.names.lookup x = some .local := by first | exact .inl rfl | exact .inr rfl | assumption) : ST X W nn (.Assign [.Name x p'] e pos :: rest) ρ μ P := by
  intro w σ H D hn m s q
  refine ⟨_, pss_cons (ps_set hN hi hx (p_ex (e := e)) hs hf) p_sx, ?_⟩
  refine h w σ H m s _ ?_
  cases o with
  | ok r μ1 => exact fun v H1 m1 f1 h1 => hr w _ H1 D hn m1 ((s.fr f1).set h1) fun o ho => (q o ho).step hn f1
  | rse C fs μ1 => exact fun od H1 m1 f1 hx => Fin.rse0 (q _ hr) m1 (s.fr f1) f1 hx
end
noncomputable abbrev ConX := List Ent → Sto → Res → Prop
noncomputable def EndX (K : PySem.W.Frag) (w : Wd) (H : Hp) (Q : VK) (E : XK) : Res → Prop
  | .ok r μ' => ∀ v H', Mem K H' w μ' → Fr w.α H H' → Val K H' w v r → Q v H'
  | .rse C fs μ' => ∀ od H', Mem K H' w μ' → Fr w.α H H' → Xd H' w od fs → E (.ref C) od H'
noncomputable def SpX (K : PySem.W.Frag) (ps : List Str) (C : ConX) : Sp := fun vs H Q E => ∃ w μ rs o, Mem K H w μ ∧ Vas K H w vs rs ∧ rs.length = ps.length ∧ C rs μ o ∧ EndX K w H Q E o
structure CalX (P : Program) (w : World) (K : PySem.W.Frag) (mg : Str → Option Value) (base : Heap) (n : Str) (k : Nat) (ps : List Str) (C : ConX) : Prop where
  ex : ∃ f fd, FnOk P w K mg base (L2N.CX P w) k f fd ps (SpX K ps C) ∧ mg n = some (.ref f) ∧ PySem.W.keepIn K (.ref f) = true ∧ Binds K fd ps []
noncomputable def PostX (n : Nat) (o : Res) : Out → Prop
  | .ret r μ' => o = .ok r μ'
  | .rse _ μ' C fs => o = .rse C fs (μ'.take n)
  | .nx _ μ' => ∃ ν μ0, o = .ok Nn μ0 ∧ μ0.length = n ∧ μ' = μ0 ++ ν
  | _ => False
section
variable {w : World} {P : Program} {K : PySem.W.Frag} {base : Heap} {mg : Str → Option Value}
theorem fnx_mk {x qual : Str} {st : Stmt} {f : Addr} {fd : FuncData} {N ps : List Str} {k : Nat} {C : ConX} (F : Fun K x qual st f fd) (Sc : FnScope N ps (defScope st)) (hN : ps.length ≤ N.length)
    (body : ∀ (cdv : Value) (A : Around) (outer : List Env) (s : Shared) (H : Hp) (E : XK), Room k (A.deeper (envOfC qual (defScope st) s.heap.objs.size f cdv)) → ∀ rs μ o, rs.length = ps.length → C rs μ o →
      ST (cxOf (L2N.CX P w) P w K mg base N qual (defScope st) f cdv A outer s H E) (fun cls d _ H => E cls d H) μ.length (defBody st) (rs.map some ++ List.replicate (N.length - rs.length) none) μ (PostX μ.length o)) : FnOk P w K mg base (L2N.CX P w) (k + 1) f fd ps (SpX K ps C) := by
  refine okXN F Sc (fun vs H Q E h => ?_) (fun cdv A outer s H vs Q E hr h => ?_)
  · obtain ⟨w0, μ, rs, o, _, hv, hl, _⟩ := h
    rw [hv.1, hl]
  · obtain ⟨w0, μ, rs, o, m, hv, hl, hC, q⟩ := h
    have hb := body cdv A outer s H E hr rs μ o hl hC
    refine hb w0 _ H _ (Nat.le_of_eq m.len.symm) m (sl_start hv (by omega)) fun oo ho => ?_
    have hw : w0.cut μ.length = w0 := by
      show (⟨w0.α.take μ.length, w0.ξ⟩ : Wd) = w0
      rw [← m.len, List.take_length]
    have hwb : ∀ β, (w0.add β).cut μ.length = w0 := fun β => by
      show (⟨(w0.α ++ β).take μ.length, w0.ξ⟩ : Wd) = w0
      rw [← m.len, List.take_left]
    cases oo with
    | ret r2 μ2 =>
      have e : o = .ok r2 μ2 := ho
      subst e
      intro v H' m' f' hv'
      rw [hw] at m' hv'
      exact q v H' m' f' hv'
    | nx ρ2 μ2 =>
      obtain ⟨ν, μ0, rfl, hl0, rfl⟩ := ho
      intro β σ' H' m' s' f' hb'
      have mc := m'.cut μ.length
      rw [hwb, ← hl0, List.take_left] at mc
      exact q .non H' mc f' Dq.non
    | brk ρ2 μ2 => exact False.elim ho
    | ct ρ2 μ2 => exact False.elim ho
    | rse ρ2 μ2 C2 fs =>
      have e : o = .rse C2 fs (μ2.take μ.length) := ho
      subst e
      intro od β σ' H' m' s' f' hb' hx
      have mc := m'.cut μ.length
      rw [hwb] at mc
      refine q od H' mc f' (hx.sub fun b hb2 => ?_)
      rcases List.mem_append.mp hb2 with z | z
      · exact List.mem_append_left _ (List.mem_append_left _ z)
      · exact List.mem_append_right _ z
theorem Df.calX {x : Str} {st : Stmt} {N ps : List Str} {k : Nat} {C : ConX} (D : Df K mg x st) (Sc : FnScope N ps (defScope st))
    (hb : ∀ (kV doc pm : Value) (an : Option Addr) (cdv ct : Value) (us : List Value), us.length = ps.length → bindArgs (PySem.W.fnOf x x (defArgs st) (defBody st) (defScope st) .none kV doc pm an cdv ct) ⟨us, []⟩ = pure (ps.zip us))
    (hN : ps.length ≤ N.length)
    (body : ∀ (f : Addr) (cdv : Value) (A : Around) (outer : List Env) (s : Shared) (H : Hp) (E : XK), Room k (A.deeper (envOfC x (defScope st) s.heap.objs.size f cdv)) → ∀ rs μ o, C rs μ o →
      ST (cxOf (L2N.CX P w) P w K mg base N x (defScope st) f cdv A outer s H E) (fun cls d _ H => E cls d H) μ.length (defBody st) (rs.map some ++ List.replicate (N.length - rs.length) none) μ (PostX μ.length o)) : CalX P w K mg base x (k + 1) ps C := by
  obtain ⟨f, fd, F, hm⟩ := D.ex
  exact ⟨f, fd, fnx_mk F Sc hN fun cdv A outer s H E hr rs μ o _ hC => body f cdv A outer s H E hr rs μ o hC, hm, F.kp, F.binds hb⟩
end
section
variable {X : Cx} {W : WX} {ρ : REnv} {μ μ1 μ2 : Sto} {e : Expr} {es : List Expr} {pos p : Pos} {rs : List Ent} {r : Ent} {o : Res} {n : Str} {k nn : Nat} {ps : List Str} {P : Out → Prop} {rest : List Stmt}
theorem EVR.call {C : ConX} (F : CalX X.prog X.w X.K X.mg X.base n k ps C) (tk : L2N.Takes X W) (hr : Room k X.A) (ha : AV X (e :: es) ρ μ rs μ1) (hC : C rs μ1 o) (hl : rs.length = ps.length := by rfl)
    (hg : Gl X n := by rfl) (hdb : (n == ("__debug__" : Str)) = false := by decide) (he : starEach (e :: es) X.env = (false, eval e X.env) :: starEach es X.env := by rfl) (hpl : (backTo pos (starEach es X.env)).any (·.1) = false := by rfl) :
    EVR X W (.Call (.Name n p) (e :: es) [] pos) ρ μ o := by
  intro w σ H m s Q q
  obtain ⟨f, fd, G, hm, hk, hb⟩ := F.ex
  refine ⟨_, pe_callS (E := WE W) G hr hg hm hk hb (fun σ => L2N.passAt tk σ) (p_ax (e := e :: es)) hdb he hpl, ?_⟩
  refine ha w σ H m s _ fun vs H1 m1 f1 h1 => ?_
  refine ⟨w, μ1, rs, o, m1, h1, hl, hC, ?_⟩
  cases o with
  | ok r μ2 => exact fun v H2 m2 f2 h2 => q v H2 m2 (f1.trans f2) h2
  | rse C fs μ2 => exact fun od H2 m2 f2 h2 => q od H2 m2 (f1.trans f2) h2
end
noncomputable def spXI (C : Addr) (f : Str) : Sp := fun vs H Q _ => ∃ a v, vs = [.ref a, v] ∧ H a = some (exo a C none) ∧ ∀ dx, H dx = none → dx ≠ a → Q .non (upd (upd H dx (exd dx [(f, v)])) a (exo a C (some dx)))
section
variable {X : Cx} {W : WX} {ρ : REnv} {μ μ1 : Sto} {e : Expr} {pos p pos' : Pos} {d : PyData} {n f : Str} {C : Addr} {nn k : Nat} {P : Out → Prop} {rest : List Stmt}
theorem exc_end {K : PySem.W.Frag} {H : Hp} {w : Wd} {a dx : Addr} {v : V} {o1 o2 o3 : HO} (m : Mem K H w μ) (hv : Val K H w v (.dat d)) (ha : H a = none) (hd : H dx = none) (hne : dx ≠ a) :
    Mem K (upd (L2.del (upd (upd (upd H a o1) dx o2) a o3) a) dx (.xd [(f, v)])) w μ ∧ Fr w.α H (upd (L2.del (upd (upd (upd H a o1) dx o2) a o3) a) dx (.xd [(f, v)])) ∧ Xd (upd (L2.del (upd (upd (upd H a o1) dx o2) a o3) a) dx (.xd [(f, v)])) w (some dx) [(f, d)] := by
  have hS : Same H (upd (L2.del (upd (upd (upd H a o1) dx o2) a o3) a) dx (.xd [(f, v)])) := fun b u e => by
    have n1 : b ≠ a := ne_of_none e ha
    have n2 : b ≠ dx := ne_of_none e hd
    rw [upd_ne n2, L2.del_ne n1, upd_ne n1, upd_ne n2, upd_ne n1]
    exact e
  exact ⟨m.same hS, Fr.of_same hS, [(f, v)], upd_same, m.freshA hd, rfl, .cons (dq_mono (Fr.of_same (S := w.α) hS).all _ _ hv) .nil⟩
end
end J
namespace J
open PySem PySem.Spec
open PyProof.Rows L2
section
variable {X : Cx} {W : WX} {n : Nat} {ρ : REnv} {μ μ1 : Sto} {P : Out → Prop} {c : Expr} {body rest : List Stmt} {pos : Pos} {k : Bool}
theorem ST.ifX (h : TV X c ρ μ k μ1) (h1 : k = true → ST X W n body ρ μ1 (thenP X W n rest P)) (h2 : k = false → ST X W n rest ρ μ1 P) : ST X W n (.If c body [] pos :: rest) ρ μ P := ST.iff h h1 fun z => ST.nil (h2 z)
end
end J
namespace J
open PySem PySem.Spec
open PyProof.Rows L2
theorem count_rel {y : V} : ∀ {ys : List V} {us : List Value}, Vals ys us → ys.all flatV = true → us.countP (eqU y) = ys.countP fun z => eqV z y
  | _, _, .nil, _ => rfl
  | z :: ys, u :: us, .cons r t, f => by
    rw [List.all_cons, Bool.and_eq_true] at f
    have ih := count_rel (y := y) t f.2
    rw [List.countP_cons, List.countP_cons, ih, eqU_of r f.1]
theorem mt_cntF {X : Cx} : MtR X "list.count" (fun x xs H Q => ∃ (c : Addr) (ys : List V) (y : V), x = V.ref c ∧ xs = [y] ∧ SqL X.K H c ys ∧ flatV y = true ∧ ys.all flatV = true ∧ Q (.int ((ys.countP fun z => eqV z y : Nat) : Int)) H) := by
  intro pins s0 σ H x xs v us Q I r1 r2 hh
  obtain ⟨c, ys, y, rfl, rfl, seq, fy, fys, hq⟩ := hh
  cases r1
  obtain ⟨u, rfl, ru⟩ := vals1 r2
  obtain ⟨items, rv, ⟨⟨cl, od, da, sl⟩, n, ho, hc, hdn, hd⟩, hlen⟩ := I.list seq
  simp only at hc hd
  subst hc hd
  refine call_meets PySem.F.slot_list_count ⟨_, ho, rfl⟩ PySem.F.entry_list_count (PySem.F.args_list_count_2 _ _) (SeqAt.list_countAt c items.toArray n od sl u (eqU y)) ⟨ho, fun z hz => mem_eqAt ru fy rv fys z (by simpa using hz), ?_⟩
  have ec := count_rel (y := y) rv fys
  refine ⟨.int ((ys.countP fun z => eqV z y : Nat) : Int), H, I.tok _, ⟨s0.toks, ?_⟩, hq⟩
  rw [← ec]
theorem dq_count {H : Hp} {v : V} {d : PyData} (h : Dq H v d) : ∀ {vs : List V} {ds : List PyData}, DqAll H vs ds → (vs.countP fun z => eqV z v) = ds.countP fun z => eqF z d
  | [], _, g => by cases g; rfl
  | u :: vs, _, g => by
    cases g with
    | cons g1 g2 => rw [List.countP_cons, List.countP_cons, dq_count h g2, dq_eqF g1 h]
section
variable {X : Cx} {W : WX} {ρ : REnv} {μ μ1 μ2 : Sto} {o e : Expr} {d : PyData} {ds : List PyData} {pos apos p p2 : Pos} {k : Nat}
theorem EV.cnt (ho : EV X o ρ μ (Ls ds) μ1) (he : EV X e ρ μ1 (.dat d) μ2) (h1 : flatD d = true) (h2 : ds.all flatD = true) (hb : attributeBase o "count" X.env (eval o X.env) = eval o X.env := by rfl)
    (hfew : ((backTo pos (starEach [e] X.env)).all (fun x => !x.1) && (backToKw pos (keywordEach [] X.env)).all (fun x => x.1.isSome) && decide ([e].length + ([] : List Keyword).length + (if ([] : List Keyword).isEmpty then 0 else 1) < 30)) = true := by rfl)
    (hl : (apos.endLine == pos.line) = true := by rfl) (hs : starEach [e] X.env = (false, eval e X.env) :: starEach [] X.env := by rfl) (hp : (backTo pos (starEach [] X.env)).any (·.1) = false := by rfl) : EV X (.Call (.Attribute o "count" apos) [e] [] pos) ρ μ (Ii ((ds.countP fun z => eqF z d : Nat) : Int)) μ2 := by
  intro w σ H m s Q q
  refine ⟨_, pe_bm PySem.F.plainAttrs_list PySem.F.slot_list_count PySem.F.type_list_count mt_cntF (p_ex (e := o)) (pa_cons (p_ex (e := e)) pa_nil hs) hb hfew hl hs hp, ?_⟩
  refine ho w σ H m s _ fun v H1 m1 f1 h3 => ?_
  have h3' := h3
  cases h3 with
  | @lst c vs _ hc hd =>
    refine ⟨.inl ⟨rfl, vs, SqL.of (dl_some hc).2⟩, ?_⟩
    refine he w σ H1 m1 (s.fr f1) _ fun u H2 m2 f2 h4 => ?_
    have h5 : Val X.K H2 w (.ref c) (Ls ds) := h3'.fr f2
    cases h5 with
    | @lst _ vs2 _ hc2 hd2 => exact ⟨c, vs2, u, rfl, rfl, SqL.of (dl_some hc2).2, by rw [dq_flat h4, h1], by rw [dq_allFlat hd2, h2], by rw [dq_count h4 hd2]; exact q _ H2 m2 (f1.trans f2) (Dq.int _)⟩
theorem EV.idx {j : Nat} {z : PyData} (ho : EV X o ρ μ (Ls ds) μ1) (he : EV X e ρ μ1 (.dat d) μ2) (h1 : flatD d = true) (h2 : ds.all flatD = true) (hj : ds[j]? = some z) (hz : eqF z d = true) (hno : ∀ (m : Nat) (y : PyData), m < j → ds[m]? = some y → eqF y d = false) (hb : attributeBase o "index" X.env (eval o X.env) = eval o X.env := by rfl)
    (hfew : ((backTo pos (starEach [e] X.env)).all (fun x => !x.1) && (backToKw pos (keywordEach [] X.env)).all (fun x => x.1.isSome) && decide ([e].length + ([] : List Keyword).length + (if ([] : List Keyword).isEmpty then 0 else 1) < 30)) = true := by rfl)
    (hl : (apos.endLine == pos.line) = true := by rfl) (hs : starEach [e] X.env = (false, eval e X.env) :: starEach [] X.env := by rfl) (hp : (backTo pos (starEach [] X.env)).any (·.1) = false := by rfl) : EV X (.Call (.Attribute o "index" apos) [e] [] pos) ρ μ (Ii (j : Int)) μ2 := by
  intro w σ H m s Q q
  refine ⟨_, pe_bm PySem.F.plainAttrs_list PySem.F.slot_list_index PySem.F.type_list_index mt_index (p_ex (e := o)) (pa_cons (p_ex (e := e)) pa_nil hs) hb hfew hl hs hp, ?_⟩
  refine ho w σ H m s _ fun v H1 m1 f1 h3 => ?_
  have h3' := h3
  cases h3 with
  | @lst c vs _ hc hd =>
    refine ⟨.inl ⟨rfl, vs, SqL.of (dl_some hc).2⟩, ?_⟩
    refine he w σ H1 m1 (s.fr f1) _ fun u H2 m2 f2 h4 => ?_
    have h5 : Val X.K H2 w (.ref c) (Ls ds) := h3'.fr f2
    cases h5 with
    | @lst _ vs2 _ hc2 hd2 =>
      obtain ⟨zv, hzv, hzd⟩ := dqAll_get hd2 hj
      refine ⟨c, vs2, u, j, zv, rfl, rfl, SqL.of (dl_some hc2).2, by rw [dq_flat h4, h1], by rw [dq_allFlat hd2, h2], hzv, by rw [dq_eqF hzd h4, hz], fun m y hm hy => ?_, q _ H2 m2 (f1.trans f2) (Dq.int _)⟩
      obtain ⟨dy, hdy, hyd⟩ := dqAll_getV hd2 hy
      rw [dq_eqF hyd h4]
      exact hno m dy hm hdy
structure Sho (d : PyData) : Prop where
  lay : d.canLay0 = true
  shw : d.showable = true
  dep : d.depth ≤ 60
  len : rlen d ≤ 10000000
  int : ∀ i : Int, d = .int i → i.natAbs.log2 < 1920
theorem Shw.sho {d : PyData} (h : Shw d) : Sho d := ⟨h.lay, h.shw, h.dep, h.len, fun i z => by have := h.seq; rw [z] at this; cases this⟩
theorem EV.reprX (T : X.mg "repr" = none) (hgd : X.A.guards = some []) (hun : X.A.units + 100 < cLine) (ho : EV X o ρ μ (.dat d) μ1) (hd : Sho d) (hg : Gl X "repr" := by rfl) (hs : starEach [o] X.env = (false, eval o X.env) :: starEach [] X.env := by rfl) : EV X (.Call (.Name "repr" p) [o] [] pos) ρ μ (Ss d.shown) μ1 := by
  intro w σ H m s Q q
  have hsz : d.shown.length ≤ sizeLine := Nat.le_trans (Nat.le_trans (shown_le d hd.lay) hd.len) (by decide)
  have cr : CallR X (.builtin "repr") (fun vs H Q => ∃ v, vs = [v] ∧ Dp X.K H v d ∧ Dq H v d ∧ Q (.str d.shown) H) := by
    intro pins s σ H xs us Q I r h
    obtain ⟨v, rfl, hdp, hdq, hq⟩ := h
    obtain ⟨u, rfl, ru⟩ := vals1 r
    have big : ∀ a : Addr, v = V.ref a → wpAny (model X.prog X.w) X.A (PySem.call (.builtin "repr") [u]) (EP X pins σ Q) X.xe s := fun a ea => by
      subst ea
      obtain rfl : u = Value.ref a := ru
      obtain ⟨as, rd⟩ := Dp.reads I d _ _ hdp (show RelV (V.ref a) (Value.ref a) from rfl)
      refine repr_of_reads' rd hd.shw (fun z => by rw [noDict0 d hd.lay] at z; cases z) hgd ?_ (fun _ _ e => e) (fun h' u tk kp => ?_) hsz
      · have h1 := hd.dep
        omega
      · exact ⟨.str d.shown, H, I.kept (t' := tk) kp, ⟨u, rfl⟩, hq⟩
    cases hdq with
    | non =>
      obtain rfl : u = Value.none := ru
      exact PySem.P.repr_of_none ⟨.str _, H, I.tok _, ⟨_, rfl⟩, by rw [PyData.shown_none] at hq; exact hq⟩
    | bl b =>
      obtain rfl : u = Value.bool b := ru
      exact PySem.P.repr_of_bool ⟨.str _, H, I.tok _, ⟨_, rfl⟩, by rw [PyData.shown_bool] at hq; exact hq⟩
    | int i =>
      obtain ⟨t, rfl⟩ := ru
      exact PySem.P.repr_of_int (hd.int i rfl) ⟨.str _, H, I.tok _, ⟨_, rfl⟩, by rw [PyData.shown_int] at hq; exact hq⟩
    | str x =>
      obtain ⟨t, rfl⟩ := ru
      exact PySem.P.repr_of_str ⟨.str _, H, I.tok _, ⟨_, rfl⟩, by rw [PyData.shown_str] at hq; exact hq⟩ (by rw [PyData.shown_str] at hsz; exact hsz)
    | lst _ _ => exact big _ rfl
    | tup _ _ => exact big _ rfl
    | ins _ _ _ =>
      have := hd.lay
      simp [PyData.canLay0] at this
    | dic _ _ _ =>
      have := hd.lay
      simp [PyData.canLay0] at this
  refine ⟨_, pe_callB cr hg T (by decide +kernel) (pa_cons (p_ex (e := o)) pa_nil hs) (by decide) (by decide) hs (by rfl), ?_⟩
  refine ho w σ H m s _ fun v H1 m1 f1 h1 => ?_
  have h1' : Dq (dl H1 w.all) v d := h1
  exact ⟨v, rfl, Dq.dp dl_same _ _ h1' hd.lay, dq_mono dl_same _ _ h1', q _ H1 m1 f1 (Dq.str _)⟩
end
end J
namespace J
open PySem PySem.Spec
open PyProof.Rows L2
noncomputable def ClsAt (mg : Str → Option Value) (n : Str) (cv : Value) : Prop := (n == ("__debug__" : Str)) = false ∧ ((∃ T, cv = .ref T ∧ mg n = some (.ref T)) ∨ (∃ T : String, cv = .type T ∧ mg n = none ∧ bootBuiltins n = some (.type T) ∧ n ≠ "__name__"))
structure ExE (X : Cx) (D : Addr) (a d : Addr) : Prop where
  cls : ExcC X.K D
  xfc : XfC X.K D
  pin : ∃ oe : Obj, (a, oe) ∈ X.pn ∧ Zc (.ref D) (some d) oe ∧ ∃ vs, oe.data = .fields vs
section
variable {X : Cx} {ρ : REnv} {μ μ1 : Sto} {a d D : Addr} {fs : List (Str × PyData)} {o : Expr} {n f : Str} {cv : Value} {b : Bool} {pos p p2 : Pos} {dt : PyData}
theorem call_isP (M : ExE X D a d) : CallR X (.builtin "isinstance") (fun xs H Q => ∃ (c : V) (cv : Value) (b : Bool), (∃ ws : List (Str × V), H d = some (.xd ws)) ∧ xs = [.ref a, c] ∧ (∀ u, RelV c u → u = cv) ∧ PySem.W.kitOne X.K (.ref D) cv = some b ∧ Q (.bl b) H) := by
  intro pins s0 σ H xs us Q I r hh
  obtain ⟨c, cv, b, ⟨ws, hx⟩, rfl, hcv, hk, hq⟩ := hh
  obtain ⟨u1, u2, rfl, r1, r2⟩ := vals2 r
  obtain rfl : u1 = Value.ref a := r1
  obtain rfl := hcv _ r2
  obtain ⟨oe, hp, hz, vs, hd⟩ := M.pin
  have C := M.cls
  obtain ⟨hget, _⟩ := I.pin (a, oe) (List.mem_append_left _ hp)
  have hx' : ObjOk X.prog X.w H s0.heap d (.xd ws) := I.hok d _ hx
  obtain ⟨mA, hns, hr⟩ := hx'
  obtain ⟨od, ho, _⟩ := lookIn_ns hns
  have J0 : PySem.W.InstAt s0.heap a oe D (some od) := ⟨hget, hz.1, by unfold PySem.W.notCls; rw [hd] <;> rfl, by rw [hz.2]; exact ho⟩
  have hcl : (PySem.W.clsIn X.K D).isSome = true := by
    obtain ⟨cd, hc, _⟩ := PySem.W.any_some C.hd
    rw [hc]
    rfl
  exact PySem.W.kia_one (PySem.W.kitx_exc hcl C.hg C.hk C.hs C.ha C.hn C.ht C.hm) I.kIn J0 hk (fun z => nomatch z) fun tk => ⟨.bl b, H, I.kept (t' := tk) fun _ _ z => z, rfl, hq⟩
theorem EV.isE (M : ExE X D a d) (T : X.mg "isinstance" = none) (N : ClsAt X.mg n cv) (hk : PySem.W.kitOne X.K (.ref D) cv = some b) (ho : EV X o ρ μ (.exc a d fs) μ1) (hg : Gl X "isinstance" := by rfl) (hgT : Gl X n := by rfl)
    (he : starEach [o, .Name n p2] X.env = (false, eval o X.env) :: starEach [.Name n p2] X.env := by rfl) (he2 : starEach [.Name n p2] X.env = (false, eval (.Name n p2) X.env) :: starEach [] X.env := by rfl) (hpl : (backTo pos (starEach [.Name n p2] X.env)).any (·.1) = false := by rfl) : EV X (.Call (.Name "isinstance" p) [o, .Name n p2] [] pos) ρ μ (Bb b) μ1 := by
  intro w σ H m s Q q
  obtain ⟨hdb, ⟨c, rfl, hm⟩ | ⟨c, rfl, hm, hv, hn⟩⟩ := N
  · refine ⟨_, pe_callB (call_isP M) hg T (by decide +kernel) (pa_cons (p_ex (e := o)) (pa_cons (pe_glob (v := .ref c) hgT hm rfl hdb) pa_nil he2) he) (by decide) (by decide) he hpl, ?_⟩
    refine ho w σ H m s _ fun v H1 m1 f1 h1 => ?_
    exact ⟨.ref c, .ref c, b, (h1.2.elim fun ws z => ⟨ws, (dl_some z.1).2⟩), by rw [h1.1], fun u hu => hu, hk, q _ H1 m1 f1 (Dq.bl b)⟩
  · refine ⟨_, pe_callB (call_isP M) hg T (by decide +kernel) (pa_cons (p_ex (e := o)) (pa_cons (pe_bltn (v := .ty c) hgT hm hv rfl hn hdb) pa_nil he2) he) (by decide) (by decide) he hpl, ?_⟩
    refine ho w σ H m s _ fun v H1 m1 f1 h1 => ?_
    exact ⟨.ty c, .type c, b, (h1.2.elim fun ws z => ⟨ws, (dl_some z.1).2⟩), by rw [h1.1], fun u hu => hu, hk, q _ H1 m1 f1 (Dq.bl b)⟩
theorem pe_xp {te : TE} (M : ExE X D a d) (hno : PySem.W.findIn X.K (.ref D) f = some none) (he : PE X o te) (hb : attributeBase o f X.env (eval o X.env) = eval o X.env := by rfl) :
    PE X (.Attribute o f pos) (fun σ H Q => te σ H fun x H1 => x = .ref a ∧ ∃ (ws : List (Str × V)) (v : V), H1 d = some (.xd ws) ∧ ws.lookup f = some v ∧ Q v H1) := by
  refine ⟨fun pins s0 σ H Q I hh => ?_⟩
  refine attr_of hb (thn (he.run pins s0 σ H _ I hh) fun u s1 hy => ?_)
  obtain ⟨x, H1, I1, rx, ex, ws, v, ea, lk, hq⟩ := hy
  subst ex
  obtain rfl : u = Value.ref a := rx
  obtain ⟨oe, hp, hz, vs, hd⟩ := M.pin
  have T := M.xfc
  obtain ⟨ha, _⟩ := I1.pin (a, oe) (List.mem_append_left _ hp)
  have hx : ObjOk X.prog X.w H1 s1.heap d (.xd ws) := I1.hok d _ ea
  obtain ⟨mA, hns, hr⟩ := hx
  obtain ⟨od, ho, hl⟩ := lookIn_ns hns
  obtain ⟨u, hu, ru⟩ := RelO.some_of (v := v) (o := mA f) (by rw [← lk]; exact hr f)
  have J0 : PySem.W.InstAt s1.heap a oe D (some od) := ⟨ha, hz.1, by unfold PySem.W.notCls; rw [hd] <;> rfl, by rw [hz.2]; exact ho⟩
  exact HandSPX.exc_get I1.kIn J0 T.ga T.gg T.exC (PySem.W.findObj_own T.hdC hno rfl (by rw [hl, hu])) (handed_of ru) ⟨v, H1, I1.tok _, ru, hq⟩
theorem EV.excF (M : ExE X D a d) (hno : PySem.W.findIn X.K (.ref D) f = some none) (ho : EV X o ρ μ (.exc a d fs) μ1) (hl : fs.lookup f = some dt) (hb : attributeBase o f X.env (eval o X.env) = eval o X.env := by rfl) : EV X (.Attribute o f pos) ρ μ (.dat dt) μ1 := by
  intro w σ H m s Q q
  refine ⟨_, pe_xp M hno (p_ex (e := o)) hb, ?_⟩
  refine ho w σ H m s _ fun v H1 m1 f1 h1 => ?_
  obtain ⟨rfl, ws, hx, hn, hd⟩ := h1
  obtain ⟨u, hu, hq⟩ := lk_dq hn hd hl
  exact ⟨rfl, ws, u, (dl_some hx).2, hu, q u H1 m1 f1 hq⟩
end
structure FnE (P : Program) (w : World) (K : PySem.W.Frag) (mg : Str → Option Value) (base : Heap) (k : Nat) (f : Addr) (fd : FuncData) (x : Str) (sp : Addr × Obj → Hp → VK → Prop) : Prop where
  go : ∀ (B : Around) (st : List Env) (t : Shared) (G : Hp) (R : VK) (p : Addr × Obj), B.guards = some [] → L2H.RoomH k B → L2H.PinOk st G t p → Env0 P w K mg base B st t G → BindsTo t fd ⟨[.ref p.1], []⟩ ([x].zip [.ref p.1]) → sp p G R → codeAny (model P w) B (.call (.ref f) ⟨[.ref p.1], []⟩) (CR CX0 st P w G t R E0) t
section
variable {w : World} {P : Program} {K : PySem.W.Frag} {base : Heap} {mg : Str → Option Value}
theorem fnE_of {k : Nat} {f : Addr} {nm0 qual : Str} {prm : Arguments} {bd : List Stmt} {scp : Scope} {dV kV doc pm cdv ct oc : Value} {an od : Option Addr} {osl : Array (Option Value)} {N : List Str} {x : Str} {sp : Addr × Obj → Hp → VK → Prop}
    (look : K.lookup f = some ⟨oc, od, .func (PySem.W.fnOf nm0 qual prm bd scp dV kV doc pm an cdv ct), osl⟩) (code : PySem.W.codeIn K cdv qual = true) (Sc : FnScope N [x] scp)
    (hb : ∀ (B : Around) (st : List Env) (t : Shared) (G : Hp) (R : VK) (p : Addr × Obj), B.guards = some [] → L2H.RoomH k (B.deeper (envOfC qual scp t.heap.objs.size f cdv)) → sp p G R → ∃ T, PSs (L2H.cxH CX0 P w K mg base N qual scp f cdv B st t G E0 p) bd T ∧ T { nx := fun _ G' => R .non G', rt := R } (L2.start N [.ref p.1]) G) :
    FnE P w K mg base (k + 1) f (PySem.W.fnOf nm0 qual prm bd scp dV kV doc pm an cdv ct) x sp := by
  refine ⟨fun B st t G R p hgd room hpin e0 bind hsp => ?_⟩
  have inK : K.In t.heap := e0.mod.kin.keeps fun a o z => (e0.bs a o z).1
  have noL : t.heap.NoLimit := e0.mod.nolimit.keeps fun a o z => (e0.bs a o z).1
  refine codeAny_call_function room.depth (inK _ _ look) rfl Sc.co Sc.gen rfl (PySem.W.codeRec_of inK code) (bind _ _ _ _ ?_)
  refine wpAny_newFunctionEnv_cells Sc.kind (fun ⟨n, v⟩ hy => ?_) fun env he t1 y => ?_
  · rcases Sc.par n (List.of_mem_zip hy).1 with z | z
    · exact Or.inl z
    · exact Or.inr ⟨z, PySem.W.cellsFrom_some _ _ _ (Or.inl z)⟩
  subst he
  refine ⟨noL.keeps y.toInCall.keep, codeAny_func ?_⟩
  obtain ⟨T, hT, hr⟩ := hb B st t G R p hgd (room.deeper _) hsp
  have I : Inv (L2H.cxH CX0 P w K mg base N qual scp f cdv B st t G E0 p) [] (L2.start N [.ref p.1]) G t1 := L2H.inv_startH Sc hpin e0 rfl (.cons rfl .nil) y
  have done : ∀ {σ' : L2.St} {G' : Hp} {v : V} {u : Value} {t' : Shared}, Inv (L2H.cxH CX0 P w K mg base N qual scp f cdv B st t G E0 p) [] σ' G' t' → RelV v u → R v G' → CE st P w G t R u t' := fun {σ' G' v u t'} J0 rv hq => ⟨v, G', J0.os, J0.bare, J0.base, J0.hok, rv, hq⟩
  refine wpAny_mono (hT.run [] t1 (L2.start N [.ref p.1]) G _ I hr) (fun fl t' hs => ?_) fun e t' hs => hs
  match fl, hs with
  | .ret u, hs =>
    obtain ⟨v, σ', G', J0, rv, hq⟩ := hs
    exact done J0 rv hq
  | .next, hs =>
    obtain ⟨σ', G', J0, hq⟩ := hs
    exact done (v := V.non) (u := Value.none) J0 rfl hq
  | .brk, hs =>
    obtain ⟨_, _, _, hq⟩ := hs
    exact hq.elim
  | .cont, hs =>
    obtain ⟨_, _, _, hq⟩ := hs
    exact hq.elim
theorem funE {x qual n : Str} {st : Stmt} {f : Addr} {fd : FuncData} {N : List Str} {k : Nat} {sp : Addr × Obj → Hp → VK → Prop} (F : Fun K n qual st f fd) (Sc : FnScope N [x] (defScope st))
    (hb : ∀ (cdv : Value) (B : Around) (o : List Env) (t : Shared) (G : Hp) (R : VK) (p : Addr × Obj), B.guards = some [] → L2H.RoomH k (B.deeper (envOfC qual (defScope st) t.heap.objs.size f cdv)) → sp p G R →
      ∃ T, PSs (L2H.cxH CX0 P w K mg base N qual (defScope st) f cdv B o t G E0 p).nox (defBody st) T ∧ T { nx := fun _ G' => R .non G', rt := R } (L2.start N [.ref p.1]) G) : FnE P w K mg base (k + 1) f fd x sp := by
  obtain ⟨oc, od, kV, doc, pm, an, cdv, ct, osl, rfl, lk, hcd⟩ := F.ex
  refine fnE_of lk hcd Sc fun B o t G R p hgd room hsp => ?_
  obtain ⟨T, hT, hq⟩ := hb cdv B o t G R p hgd room hsp
  exact ⟨T, hT.nox, hq⟩
end
theorem pe_callE {X : Cx} {a : Addr} {oe : Obj} {pn : List (Addr × Obj)} {k : Nat} {f : Addr} {fd : FuncData} {x n y : Str} {i : Nat} {sp : Addr × Obj → Hp → VK → Prop} {pos p p2 : Pos} (F : FnE X.prog X.w X.K X.mg X.base k f fd x sp) (hgd : X.A.guards = some []) (hr : L2H.RoomH k X.A) (hg : Gl X n) (hm : X.mg n = some (.ref f)) (hk : PySem.W.keepIn X.K (.ref f) = true) (hb : Binds X.K fd [x] [])
    (hN : X.N[i]? = some y) (hv : Vis X.env.scope y) (hdb : (n == ("__debug__" : Str)) = false := by decide) (hd : (y == ("__debug__" : Str)) = false := by decide) (hcd : (y == ("__classdict__" : Str)) = false := by decide) (he : starEach [.Name y p2] (X.suite a ((a, oe) :: pn)).env = (false, eval (.Name y p2) (X.suite a ((a, oe) :: pn)).env) :: starEach [] (X.suite a ((a, oe) :: pn)).env := by rfl) (hpl : (backTo pos (starEach [] (X.suite a ((a, oe) :: pn)).env)).any (·.1) = false := by rfl) :
    PE (X.suite a ((a, oe) :: pn)) (.Call (.Name n p) [.Name y p2] [] pos) (fun σ H Q => σ[i]? = some (some (.ref a)) ∧ sp (a, oe) H Q) := by
  refine ⟨fun pins s0 σ H Q I hh => ?_⟩
  obtain ⟨hσ, hsp⟩ := hh
  refine wpAny_Call_Name_kw (ld_glob I hg hm ?_ hdb)
  refine PySem.W.callWith_K (h₀ := X.base) I.ok.mod.kin hk (thn ((pa_cons (pe_var (pos := p2) (X := X.suite a ((a, oe) :: pn)) (i := i) hN hv hd hcd) pa_nil he).run pos pins s0 σ H (fun vs H1 => vs = [.ref a] ∧ H1 = H) I ⟨_, hσ, rfl, rfl⟩) fun us s1 ⟨vs, H1, I1, r, ev, eH⟩ => ⟨I1.kIn, ?_⟩) he hpl
  subst ev
  subst eH
  obtain ⟨u, rfl, ru⟩ := vals1 r
  obtain rfl : u = Value.ref a := ru
  have b := hb s1 [.ref a] I1.kIn rfl
  rw [List.append_nil] at b
  have P1 := I1.pin (a, oe) (List.mem_append_left _ List.mem_cons_self)
  have hpin : L2H.PinOk X.stack H1 s1 (a, oe) := ⟨P1.1, P1.2.1, fun hm => (List.mem_cons.mp (I1.stkSub a hm)).elim P1.2.2.1 P1.2.2.2.1, P1.2.2.2.2⟩
  refine wpAny_call (codeAny_mono (F.go (X.suite a ((a, oe) :: pn)).A X.stack s1 H1 Q (a, oe) hgd ⟨hr.dp, hr.un⟩ hpin I1.env0 b hsp) fun z s2 hy => ?_)
  match z, hy with
  | .ok (.ret u), hy => exact I1.after hy
end J
namespace J
open PySem PySem.Spec
open PyProof.Rows L2
theorem flies_on {B g g' : Heap} {fr : List Env} {x : Addr} {Z : Obj → Prop} (f : HandSPX.FlyingZ B fr x Z g) (k : ∀ b o, g.get? b = some o → g'.get? b = some o) : HandSPX.FlyingZ B fr x Z g' := by
  obtain ⟨p1, p2, p3, oe, vs, T, oT, ts, q1, q2, q3, q4, q5, q6, q7, q8, q9⟩ := f
  exact ⟨fun b o e => k b o (p1 b o e), p2, p3.of_keeps (fun b o e _ => ⟨o, k b o e, rfl⟩), oe, vs, T, oT, ts, k _ _ q1, q2, q3, q4, q5, q6, k _ _ q7, q8, q9⟩
noncomputable def wAs3 (K : PySem.W.Frag) (cs : List Value) (i : Nat) (ts : Addr → Value → Option Addr → TS) (D : Ends) : WX := fun cls d σ H => PySem.W.exmAny K cls cs = some true ∧ ∀ a, H a = none →
  ts a cls d { nx := fun σ' H' => D.nx (σ'.set i none) H', rt := D.rt, bk := fun σ' H' => D.bk (σ'.set i none) H', ct := fun σ' H' => D.ct (σ'.set i none) H' } (σ.set i (some (.ref a))) H
section
variable {X : Cx} {n x1 x2 x3 : Str} {c1 c2 c3 : Addr} {i : Nat} {body suite : List Stmt} {b₀ : Stmt} {p1 p2 p3 tp pos pos' : Pos} {tk : Nat} {tb : WX → TS} {ts : Addr → Value → Option Addr → TS}
theorem ps_try3 (hst : X.stack = X.env :: X.outer) (hfr : X.env.frame = some X.env.locals) (nd : X.N.Nodup) (hi : X.N[i]? = some n) (hloc : X.env.kindOf n = some .local)
    (hg1 : Gl X x1) (m1 : X.mg x1 = some (.ref c1)) (d1 : (x1 == ("__debug__" : Str)) = false) (hg2 : Gl X x2) (m2 : X.mg x2 = some (.ref c2)) (d2 : (x2 == ("__debug__" : Str)) = false) (hg3 : Gl X x3) (m3 : X.mg x3 = some (.ref c3)) (d3 : (x3 == ("__debug__" : Str)) = false)
    (hb : ∀ (W : WX) (pn : List (Addr × Obj)) (xe : Value → Shared → Prop), Takes (X.tr pn xe) W → PassesOwn (model X.prog X.w) X.A X.env xe → PSs (X.tr pn xe) body (tb W))
    (hsu : ∀ (a : Addr) (oe : Obj) (cls : Value) (d : Option Addr) (pn : List (Addr × Obj)), Zc cls d oe → (∃ vs, oe.data = .fields vs) → PSs (X.suite a ((a, oe) :: pn)) (b₀ :: suite) (ts a cls d)) :
    PS X (.Try body [.ExceptHandler (some (.Tuple [.Name x1 p1, .Name x2 p2, .Name x3 p3] tk tp)) (some n) (b₀ :: suite) pos'] [] [] pos) (fun D σ H => tb (wAs3 X.K [.ref c1, .ref c2, .ref c3] i ts D) D σ H) := by
  refine ⟨fun pins s0 σ H D I hh => ?_⟩
  have ok0 := I.ok
  have frames : X.A.frames = some (X.env :: X.outer) := ok0.frames.trans (by rw [hst])
  refine wpAny_Try_except ?_
  refine wpAny_mono ((hb (wAs3 X.K [.ref c1, .ref c2, .ref c3] i ts D) (X.pn ++ pins) (fun v t1 => wpAny (model X.prog X.w) X.A (noteFrame v X.env) (fun _ t2 => wpAny (model X.prog X.w) X.A (setFlight v none) (fun _ t3 =>
    wpAny (model X.prog X.w) X.A (handleBy v X.env [.ExceptHandler (some (.Tuple [.Name x1 p1, .Name x2 p2, .Name x3 p3] tk tp)) (some n) (b₀ :: suite) pos']) (SP X pins D) X.xe t3) X.xe t2) X.xe t1) (fun u t hx => ?_) PassesOwn.looking).run [] s0 σ H D (I.toTry _) hh) (fun fl t hy => ?_) (fun v t hv => hv)
  · obtain ⟨a, B, sI, pins', σ1, H1, cls, d, rfl, J0, nb, up, sky, na, eo, ag, hm, hgo⟩ := hx
    have J1 : Inv X pins σ1 H1 sI := J0.ofTry ok0
    have sky1 : Sky B (X.env :: X.outer) a (Zc cls d) X.env.locals t.heap := by rw [← hst]; exact sky
    show wpAny (model X.prog X.w) X.A (noteFrame (.ref a) X.env) _ _ _
    refine Sky.land Zc.steady frames hfr sky1 fun g3 fl3 up3 => ?_
    have L3 : Inv X pins σ1 H1 { t with heap := g3 } := J1.landed nb fl3.1 (up.trans up3) eo ag
    obtain ⟨o3, v3, he3, hz3, hd3⟩ := fl3.there
    have apart : ∀ {g : Heap} {o : Obj} {vs : Array Value}, g.FunFrames B (X.env :: X.outer) → g.get? a = some o → o.data = .fields vs → a ∉ frs (X.env :: X.outer) := fun {g o vs} ff e dd hin => by
      obtain ⟨_, o', e', hne⟩ := ff.mem hin
      rw [e] at e'
      cases e'
      exact hne _ dd
    have out3 := apart fl3.2.2.1 he3 hd3
    have nL : a ≠ X.env.locals := fun z => out3 (List.mem_filterMap.mpr ⟨X.env, List.mem_cons_self, by rw [hfr, z]⟩)
    have nF : a ∉ X.fs := fun hin => by
      obtain ⟨ev, hev, q⟩ := List.mem_filterMap.mp hin
      exact out3 (List.mem_filterMap.mpr ⟨ev, List.mem_cons_of_mem _ hev, q⟩)
    have S3 := L3.suite he3 hd3 na nL nF
    refine wpAny_handleBy_cons (codeAny_handlers_test ?_) (by intro q; cases q)
    -- the tuple of the classes
    refine wpAny_Tuple_spliced (Calls.spliced_cons (ld_glob (X := X.suite a ((a, o3) :: (X.pn ++ pins))) S3 hg1 m1 (Calls.spliced_cons (ld_glob (X := X.suite a ((a, o3) :: (X.pn ++ pins))) S3 hg2 m2 (Calls.spliced_cons (ld_glob (X := X.suite a ((a, o3) :: (X.pn ++ pins))) S3 hg3 m3 (Calls.spliced_nil ⟨(show 3 ≤ sizeLine by decide), ?_⟩) d3)) d2)) d1))
    have kp : ∀ b o, g3.get? b = some o → (g3.push { cls := .type "tuple", data := .seq [Value.ref c1, Value.ref c2, Value.ref c3].toArray }).get? b = some o := fun b o e => Heap.get?_push_of_some _ e
    have fl4 := flies_on fl3 kp
    have look : PySem.W.Looks (model X.prog X.w) (g3.push { cls := .type "tuple", data := .seq [Value.ref c1, Value.ref c2, Value.ref c3].toArray }) (typeOf (.ref a)) cls := fun A Q E t' k q => wpAny_typeOf_ref (k _ _ (kp _ _ he3)) (by rw [hz3.1]; exact q)
    have yes := PySem.W.exm_tup3 (M := model X.prog X.w) (tp := g3.objs.size) (L3.kIn.keeps kp) look (Heap.get?_push_size _ rfl) hm
    refine yes.here ?_
    refine codeAny_handlers_suite_as ?_
    refine HandSPX.lands_againZ fl4 fun g5 fl5 up5 => ?_
    have up4 : g3.UpToSlots (g3.push { cls := .type "tuple", data := .seq [Value.ref c1, Value.ref c2, Value.ref c3].toArray }) := Heap.UpToSlots.of_keeps kp
    have L5 : Inv X pins σ1 H1 { t with heap := g5 } := J1.landed nb fl5.1 (((up.trans up3).trans up4).trans up5) eo ag
    obtain ⟨o5, v5, he5, hz5, hd5⟩ := fl5.there
    have S5 := L5.suite he5 hd5 na nL nF
    refine store_ok (X := X.suite a ((a, o5) :: (X.pn ++ pins))) (v := .ref a) S5 nd hi (Or.inl hloc) rfl (fun t6 S6 => ?_) (.inr hloc)
    refine wpAny_mono ((hsu a o5 cls d (X.pn ++ pins) hz5 ⟨_, hd5⟩).run [] t6 _ H1 _ S6 (hgo a na)) (fun fl t7 hz => ?_) (fun _ _ z => False.elim z)
    have close : ∀ {σ7 : L2.St} {H7 : Hp} {R : Shared → Prop}, Inv (X.suite a ((a, o5) :: (X.pn ++ pins))) [] σ7 H7 t7 → (∀ t8, Inv X pins (σ7.set i none) H7 t8 → R t8) → wpAny (model X.prog X.w) X.A (do bindName X.env n .none; unbindBehindTheSuite X.env n pos') (fun _ t8 => R t8) X.xe t7 := fun S7 hR => gone_ok (S7.unsuite ok0) nd hi hloc hR
    match fl, hz with
    | .next, hz =>
      obtain ⟨σ7, H7, S7, q7⟩ := hz
      exact close S7 fun t8 J8 => ⟨_, _, J8, q7⟩
    | .brk, hz =>
      obtain ⟨σ7, H7, S7, q7⟩ := hz
      exact close S7 fun t8 J8 => ⟨_, _, J8, q7⟩
    | .cont, hz =>
      obtain ⟨σ7, H7, S7, q7⟩ := hz
      exact close S7 fun t8 J8 => ⟨_, _, J8, q7⟩
    | .ret u, hz =>
      obtain ⟨v7, σ7, H7, S7, r7, q7⟩ := hz
      exact close S7 fun t8 J8 => ⟨_, _, _, J8, r7, q7⟩
  · match fl, hy with
    | .next, hy =>
      obtain ⟨σ1, H1, J1, q⟩ := hy
      exact wpAny_execs_nil ⟨σ1, H1, J1.ofTry ok0, q⟩
    | .brk, hy =>
      obtain ⟨σ1, H1, J1, q⟩ := hy
      exact ⟨σ1, H1, J1.ofTry ok0, q⟩
    | .cont, hy =>
      obtain ⟨σ1, H1, J1, q⟩ := hy
      exact ⟨σ1, H1, J1.ofTry ok0, q⟩
    | .ret u, hy =>
      obtain ⟨v, σ1, H1, J1, r, q⟩ := hy
      exact ⟨v, σ1, H1, J1.ofTry ok0, r, q⟩
end
end J
namespace J
open PySem PySem.Spec
open PyProof.Rows L2
noncomputable def mkThen (r : Ent) (μ μ' : Sto) : Option (Addr × List (Str × PyData)) → Res
  | none => .ok r μ'
  | some cf => .rse cf.1 cf.2 μ
noncomputable def LamB (K : PySem.W.Frag) (mg : Str → Option Value) (base : Heap) (x : Str) : Prop := ∃ c P, lamTab K x = some (c, P) ∧ LamX.TabB base mg c P ∧ x ∈ lamDefs ∧ ∀ p ∈ tabsK K, p.1 = P → p.2 = x ++ ".<locals>." ++ "<lambda>"
structure LamD (K : PySem.W.Frag) (mg : Str → Option Value) (base : Heap) (x : Str) (cdv : Value) : Prop where
  ex : ∃ c P, lamTab K x = some (c, P) ∧ cdv = .ref c ∧ LamX.TabB base mg c P ∧ x ∈ lamDefs ∧ ∀ p ∈ tabsK K, p.1 = P → p.2 = x ++ ".<locals>." ++ "<lambda>"
section
variable {w : World} {P : Program} {K : PySem.W.Frag} {base : Heap} {mg : Str → Option Value}
theorem funGL {x : Str} {st : Stmt} {f : Addr} {fd : FuncData} {N ps : List Str} {k : Nat} {sp : Sp} (F : Fun K x x st f fd) (hm : mg x = some (.ref f)) (inB : K.In base) (nsB : base.Ns mainGlobals mg) (B : LamB K mg base x) (Sc : FnScope N ps (defScope st)) (many : ∀ xs G R E, sp xs G R E → xs.length = ps.length)
    (hb : ∀ (cdv : Value) (B : Around) (o : List Env) (t : Shared) (G : Hp) (xs : List V) (R : VK) (E : XK), LamD K mg base x cdv → B.guards = some [] → Room k (B.deeper (envOfC x (defScope st) t.heap.objs.size f cdv)) → sp xs G R E →
      ∃ T, PSs (cxOf CX0 P w K mg base N x (defScope st) f cdv B o t G E).nox (defBody st) T ∧ T { nx := fun _ G' => R .non G', rt := R } (L2.start N xs) G) : FnG P w K mg base (k + 1) f fd ps sp := by
  obtain ⟨oc, od, kV, doc, pm, an, cdv, ct, osl, rfl, lk, hcd⟩ := F.ex
  obtain ⟨c, Pt, ht, TB, hx, hu⟩ := B
  have ec : cdv = .ref c := PySem.W.law_code inB nsB (lamTab_in ht) hm (inB _ _ lk) rfl
  refine fnG_of lk hcd Sc many fun B o t G R E hgd room hsp z => ?_
  obtain ⟨T, hT, hq⟩ := hb cdv B o t G R E hgd ⟨c, Pt, ht, ec, TB, hx, hu⟩ room hsp z
  exact ⟨T, hT.nox, hq⟩
end
end J
namespace J
open PySem PySem.Spec
open PyProof.Rows L2
end J
namespace J
open PySem PySem.Spec
open PyProof.Rows L2
noncomputable abbrev KD := List (Str × PyData)
noncomputable def kvE (kv : KD) : List Key := kv.map fun p => (.inr p.1 : Key)
noncomputable def dkD (kv : KD) : PyData := .dict (((kvE kv).map keyD).zip (kv.map (·.2)))
noncomputable def kget (kv : KD) (s : Str) : Option PyData := (kv.find? fun p => decide (p.1 = s)).map (·.2)
theorem keyD_inj {a b : Key} (h : keyD a = keyD b) : a = b := by
  cases a <;> cases b <;> simp [keyD] at h <;> rw [h]
theorem zip_injK : ∀ {ns ms : List Key} {ds es : List PyData}, ns.length = ds.length → ms.length = es.length → (ns.map keyD).zip ds = (ms.map keyD).zip es → ns = ms ∧ ds = es
  | [], [], [], [], _, _, _ => ⟨rfl, rfl⟩
  | [], m :: ms, [], e :: es, _, _, h => by simp at h
  | n :: ns, [], d :: ds, [], _, _, h => by simp at h
  | n :: ns, m :: ms, d :: ds, e :: es, h1, h2, h => by
    simp only [List.map_cons, List.zip_cons_cons, List.cons.injEq, Prod.mk.injEq] at h
    obtain ⟨⟨q, rfl⟩, h⟩ := h
    obtain rfl := keyD_inj q
    obtain ⟨rfl, rfl⟩ := zip_injK (by simpa using h1) (by simpa using h2) h
    exact ⟨rfl, rfl⟩
  | [], _, _ :: _, _, h1, _, _ => by simp at h1
  | _ :: _, _, [], _, h1, _, _ => by simp at h1
  | _, [], _, _ :: _, _, h2, _ => by simp at h2
  | _, _ :: _, _, [], _, h2, _ => by simp at h2
theorem dq_dk {H : Hp} {v : V} {kv : KD} (h : Dq H v (dkD kv)) : ∃ a kvs, v = .ref a ∧ H a = some (.dK kvs) ∧ kvs.map (·.1) = kvE kv ∧ DqAll H (kvs.map (·.2)) (kv.map (·.2)) := by
  unfold dkD at h
  generalize e : PyData.dict _ = d at h
  cases h with
  | @dic a kvs ks ds hx hn hd =>
    injection e with e
    have l1 : ks.length = ds.length := by rw [← hn, List.length_map, ← dqAll_len hd, List.length_map]
    obtain ⟨q1, q2⟩ := zip_injK (by simp [kvE]) l1 e
    exact ⟨a, kvs, rfl, hx, by rw [hn, q1], by rw [q2]; exact hd⟩
  | ins hx hn hd =>
    exfalso
    injection e with e
    cases kv with
    | nil => simp [kvE] at e
    | cons p kv =>
      simp only [kvE, List.map_cons, List.zip_cons_cons, List.cons.injEq, Prod.mk.injEq] at e
      exact absurd e.1.1 (by simp [keyD])
  | _ => cases e
noncomputable def OptD (H : Hp) : Option V → Option PyData → Prop
  | some v, some d => Dq H v d
  | none, none => True
  | _, _ => False
theorem kget_val {H : Hp} {s : Str} : ∀ {kvs : List (Key × V)} {kv : KD}, kvs.map (·.1) = kvE kv → DqAll H (kvs.map (·.2)) (kv.map (·.2)) → OptD H (valV kvs (.inr s)) (kget kv s)
  | [], [], _, _ => trivial
  | [], p :: kv, h, _ => by simp [kvE] at h
  | q :: kvs, [], h, _ => by simp [kvE] at h
  | q :: kvs, p :: kv, h, hd => by
    simp only [kvE, List.map_cons, List.cons.injEq] at h
    simp only [List.map_cons] at hd
    cases hd with
    | cons d1 d2 =>
      have ih := kget_val (s := s) (kvs := kvs) (kv := kv) h.2 d2
      by_cases e : p.1 = s
      · have e2 : q.1 = Sum.inr s := by rw [h.1, e]
        rw [valV_pos e2]
        unfold kget
        rw [List.find?_cons, decide_eq_true e]
        exact d1
      · have e2 : ¬ q.1 = Sum.inr s := fun z => e (by rw [h.1] at z; exact Sum.inr.inj z)
        rw [valV_neg e2]
        unfold kget at ih ⊢
        rw [List.find?_cons, decide_eq_false e]
        exact ih
section
variable {X : Cx} {ρ : REnv} {μ μ1 μ2 μ3 : Sto} {a b c e o : Expr} {pos p2 p : Pos} {s t u : Str} {kv : KD} {d : PyData}
theorem EV.dget (hu : X.A.units + 1 < cLine) (ho : EV X o ρ μ (.dat (dkD kv)) μ1) (hi : EV X e ρ μ1 (Ss s) μ2) (h : kget kv s = some d) (hs : NoSl e := by exact fun _ _ => rfl) : EV X (.Subscript o e pos) ρ μ (.dat d) μ2 := by
  intro w σ H m sl Q q
  refine ⟨_, pe_dget hu (p_ex (e := o)) (p_ex (e := e)) hs, ?_⟩
  refine ho w σ H m sl _ fun v H1 m1 f1 h1 => ?_
  refine hi w σ H1 m1 (sl.fr f1) _ fun u H2 m2 f2 h2 => ?_
  cases h2
  obtain ⟨a, kvs, rfl, hx, hn, hd⟩ := dq_dk (h1.fr f2)
  have hv := kget_val (s := s) hn hd
  rw [h] at hv
  cases q1 : valV kvs (.inr s) with
  | none => rw [q1] at hv; exact hv.elim
  | some z =>
    rw [q1] at hv
    have g := DGet.k (k := (.inr s : Key)) (dl_some hx).2
    rw [q1] at g
    exact ⟨a, z, rfl, g, q z H2 m2 (f1.trans f2) hv⟩
end
end J
namespace J
open PySem PySem.Spec
open PyProof.Rows L2
end J
namespace J
open PySem PySem.Spec
open PyProof.Rows L2
theorem dqAll_rep {H : Hp} {vs : List V} {ds : List PyData} (h : DqAll H vs ds) : ∀ n : Nat, DqAll H (List.replicate n vs).flatten (List.replicate n ds).flatten
  | 0 => .nil
  | n + 1 => by
    rw [List.replicate_succ, List.replicate_succ, List.flatten_cons, List.flatten_cons]
    exact dqAll_append h (dqAll_rep h n)
section
variable {K : PySem.W.Frag} {μ : Sto} {ds : List PyData}
theorem r2_rep {n : Nat} (h1 : n ≤ 1000) (h2 : ds.length ≤ 1000) : R2V K rRep (Ls ds) (Ii (n : Int)) (Ls (List.replicate n ds).flatten) μ := fun w H v u m a b Q q => by
  cases a with
  | lst ha hd =>
    cases b
    have hz : n * ds.length ≤ 1000 * 1000 := Nat.mul_le_mul h1 h2
    refine ⟨_, (n : Int), _, rfl, rfl, (dl_some ha).2, by omega, by omega, ?_, ?_⟩
    · rw [dqAll_len hd, Int.toNat_natCast, Nat.mul_comm]
      exact sz hz
    · rw [Int.toNat_natCast]
      exact new_lst m (dqAll_rep hd n) q
end
section
variable {X : Cx} {ρ : REnv} {μ μ1 μ2 : Sto} {a b e e2 : Expr} {pos p : Pos} {xs ds : List PyData} {n : Str} {k : Nat} {d : PyData}
theorem oRep {m : Nat} (ha : EV X a ρ μ (Ls ds) μ1) (hb : EV X b ρ μ1 (Ii (m : Int)) μ2) (h1 : m ≤ 1000) (h2 : ds.length ≤ 1000) : EV X (.BinOp a .Mult b pos) ρ μ (Ls (List.replicate m ds).flatten) μ2 := ha.op op_rep hb (r2_rep h1 h2)
end
section
variable {w : World} {P : Program} {K : PySem.W.Frag} {base : Heap} {mg : Str → Option Value}
theorem Df.calGPL {x : Str} {st : Stmt} {N ps : List Str} {k : Nat} {C : ConP} (D : Df K mg x st) (inB : K.In base) (nsB : base.Ns mainGlobals mg) (B : LamB K mg base x) (Sc : FnScope N ps (defScope st))
    (hb : ∀ (kV doc pm : Value) (an : Option Addr) (cdv ct : Value) (us : List Value), us.length = ps.length → bindArgs (PySem.W.fnOf x x (defArgs st) (defBody st) (defScope st) .none kV doc pm an cdv ct) ⟨us, []⟩ = pure (ps.zip us))
    (hN : ps.length ≤ N.length)
    (body : ∀ (f : Addr) (cdv : Value) (A : Around) (outer : List Env) (s : Shared) (H : Hp) (E : XK), LamD K mg base x cdv → A.guards = some [] → Room k (A.deeper (envOfC x (defScope st) s.heap.objs.size f cdv)) → ∀ rs μ Φ, C rs μ Φ →
      ST (cxOf CX0 P w K mg base N x (defScope st) f cdv A outer s H E).nox W0 μ.length (defBody st) (rs.map some ++ List.replicate (N.length - rs.length) none) μ (PostP Φ)) : CalGP P w K mg base x (k + 1) ps C := by
  obtain ⟨f, fd, F, hm⟩ := D.ex
  refine ⟨f, fd, funGL F hm inB nsB B Sc (fun xs G R E h => ?_) (fun cdv B o t G xs R E hL hgd room h => ?_), hm, F.kp, F.binds hb⟩
  · obtain ⟨w0, μ, rs, Φ, _, hv, hl, _⟩ := h
    exact hv.1.trans hl
  · obtain ⟨w0, μ, rs, Φ, m, hv, hl, hC, q⟩ := h
    have hw : w0.cut μ.length = w0 := by
      show (⟨w0.α.take μ.length, w0.ξ⟩ : Wd) = w0
      rw [← m.len, List.take_length]
    refine body f cdv B o t G E hL hgd room rs μ Φ hC w0 _ G _ (Nat.le_of_eq m.len.symm) m (sl_start hv (by omega)) fun oo ho => ?_
    match oo, ho with
    | .ret r2 μ2, ho =>
      intro v G' m' f' hv'
      rw [hw] at m' hv'
      exact q r2 μ2 v G' ho m' f' hv'
end
end J
namespace J
open PySem PySem.Spec
open PyProof.Rows L2
noncomputable def ShoB (base : Heap) (d : PyData) : Prop := Sho d ∨ False
section
variable {X : Cx} {ρ : REnv} {μ μ1 : Sto} {o : Expr} {d : PyData} {p pos : Pos}
theorem EV.reprB (T : X.mg "repr" = none) (hgd : X.A.guards = some []) (hun : X.A.units + 100 < cLine) (ho : EV X o ρ μ (.dat d) μ1) (hd : ShoB X.base d) (hg : Gl X "repr" := by rfl) (hs : starEach [o] X.env = (false, eval o X.env) :: starEach [] X.env := by rfl) : EV X (.Call (.Name "repr" p) [o] [] pos) ρ μ (Ss d.shown) μ1 := by
  rcases hd with h | h2
  · exact EV.reprX T hgd hun ho h hg hs
  · exact h2.elim
end
end J
namespace J
open PySem PySem.Spec
open PyProof.Rows L2
noncomputable def errNs : List Str := ["InvalidText", "InvalidCount", "InvalidPlace", "InvalidClaim", "NotABook", "InvalidPlans", "InvalidPieces", "UnknownPlan", "TooLong", "IsOver", "NothingToUndo", "Broken"]
noncomputable def baseNs : List Str := ["NotRight", "NotThere", "CannotBe"]
noncomputable def ownNs : List String := ["ValueError", "LookupError", "ArithmeticError"]
noncomputable def errName (n : Nat) : Str := errNs.getD n Str.empty
noncomputable abbrev ErrAt (n : Nat) (f : Str) : Prop := n = 8 ∧ f = "most"
noncomputable def errSort (n j : Nat) : Bool := if n < 7 then j == 0 else if n == 7 then j == 1 else j == 2
structure ErrC (K : PySem.W.Frag) (mg : Str → Option Value) (D : Addr) (n : Nat) (f : Str) : Prop where
  cls : ExcC K D
  xfc : XfC K D
  no : PySem.W.findIn K (.ref D) f = some none
  kit : ∀ j, j < 12 → ∃ T, mg (errName j) = some (.ref T) ∧ PySem.W.kitOne K (.ref D) (.ref T) = some (j == n)
  bas : ∀ j, j < 3 → ∃ T, mg (baseNs.getD j Str.empty) = some (.ref T) ∧ PySem.W.kitOne K (.ref D) (.ref T) = some (errSort n j)
  own : ∀ j, j < 3 → mg (ownNs.getD j "") = none ∧ PySem.W.kitOne K (.ref D) (.type (ownNs.getD j "")) = some (errSort n j)
  at_ : ErrAt n f
theorem idx_no {ds : List PyData} {d : PyData} {j : Nat} (h : ((ds.take j).all fun y => !eqF y d) = true) : ∀ (m : Nat) (y : PyData), m < j → ds[m]? = some y → eqF y d = false := fun m y hm hy => by
  rw [List.all_eq_true] at h
  have := h y (List.mem_iff_getElem?.mpr ⟨m, by rw [List.getElem?_take_of_lt hm]; exact hy⟩)
  simpa using this
noncomputable def errTold (n : Nat) (d : PyData) : List PyData := [.str (errName n), .str d.shown]
noncomputable def spErr (K : PySem.W.Frag) (mg : Str → Option Value) (base : Heap) : Addr × Obj → Hp → VK → Prop := fun p G R => ∃ (w : Wd) (μ : Sto) (D d : Addr) (n : Nat) (f : Str) (x : PyData), Mem K G w μ ∧ Val K G w (.ref p.1) (.exc p.1 d [(f, x)]) ∧ Zc (.ref D) (some d) p.2 ∧ (∃ vs, p.2.data = .fields vs) ∧ ErrC K mg D n f ∧ ShoB base x ∧
  ∀ v H', Mem K H' w μ → Fr w.α G H' → Val K H' w v (Ls (errTold n x)) → R v H'
section
variable {w : World} {P : Program} {K : PySem.W.Frag} {base : Heap} {mg : Str → Option Value}
noncomputable abbrev nLE : List Str := ["_law_e", "_law_sorts", "_law_bases", "_law_own", "_law_at", "_law_words"]
theorem scLErr : FnScope nLE ["_law_e"] (defScope sLError) := ⟨rfl, rfl, rfl, by decide +kernel, rfl, by decide +kernel, by decide +kernel⟩
noncomputable abbrev errX (P : Program) (w : World) (K : PySem.W.Frag) (mg : Str → Option Value) (base : Heap) (fa : Addr) (cdv : Value) (B : Around) (st : List Env) (t : Shared) (G : Hp) (p : Addr × Obj) : Cx := (L2H.cxH CX0 P w K mg base nLE "_law_error" (defScope sLError) fa cdv B st t G E0 p).nox
theorem okErr {fa : Addr} {fd : FuncData} (T : mg "isinstance" = none) (T2 : mg "repr" = none) (F : Fun K "_law_error" "_law_error" sLError fa fd) : FnE P w K mg base 2 fa fd "_law_e" (spErr K mg base) := by
  refine funE F scLErr fun cdv B st t G R p hgd hr h => ?_
  obtain ⟨w0, μ, D, d, n, f, x, m, hv, hz, hf, C, hx, q⟩ := h
  refine (show ST (errX P w K mg base fa cdv B st t G p) W0 μ.length (defBody sLError) [some (.exc p.1 d [(f, x)]), none, none, none, none, none] μ (PostR (Ls (errTold n x)) μ) from ?_) w0 _ G _ (Nat.le_of_eq m.len.symm) m (sl_start (N := nLE) (rs := [.exc p.1 d [(f, x)]]) (.cons hv .nil) (show 1 ≤ 6 by decide)) fun oo ho => ?_
  · have M : ExE (errX P w K mg base fa cdv B st t G p) D p.1 d := ⟨C.cls, C.xfc, p.2, List.mem_cons_self, hz, hf⟩
    have hu : (errX P w K mg base fa cdv B st t G p).A.units + 100 < cLine := by
      refine Nat.lt_of_le_of_lt ?_ hr.un
      exact Nat.add_le_add_left (show 100 ≤ 16 * 1 + 200 by decide) _
    obtain ⟨T0, a0, k0⟩ := C.kit 0 (by decide)
    obtain ⟨T1, a1, k1⟩ := C.kit 1 (by decide)
    obtain ⟨T2', a2, k2⟩ := C.kit 2 (by decide)
    obtain ⟨T3, a3, k3⟩ := C.kit 3 (by decide)
    obtain ⟨T4, a4, k4⟩ := C.kit 4 (by decide)
    obtain ⟨T5, a5, k5⟩ := C.kit 5 (by decide)
    obtain ⟨T6, a6, k6⟩ := C.kit 6 (by decide)
    obtain ⟨T7, a7, k7⟩ := C.kit 7 (by decide)
    obtain ⟨T8, a8, k8⟩ := C.kit 8 (by decide)
    obtain ⟨T9, a9, k9⟩ := C.kit 9 (by decide)
    obtain ⟨T10, a10, k10⟩ := C.kit 10 (by decide)
    obtain ⟨T11, a11, k11⟩ := C.kit 11 (by decide)
    obtain ⟨U0, b0, l0⟩ := C.bas 0 (by decide)
    obtain ⟨U1, b1, l1⟩ := C.bas 1 (by decide)
    obtain ⟨U2, b2, l2⟩ := C.bas 2 (by decide)
    obtain ⟨c0, o0⟩ := C.own 0 (by decide)
    obtain ⟨c1, o1⟩ := C.own 1 (by decide)
    obtain ⟨c2, o2⟩ := C.own 2 (by decide)
    have ie : ∀ {ρ : REnv} {n : Str} {c : Addr} {b : Bool} {pos p0 p1 p2}, ρ[0]? = some (some (.exc p.1 d [(f, x)])) → mg n = some (.ref c) → PySem.W.kitOne K (.ref D) (.ref c) = some b → Gl (errX P w K mg base fa cdv B st t G p) n → (n == ("__debug__" : Str)) = false → EV (errX P w K mg base fa cdv B st t G p) (.Call (.Name "isinstance" p0) [.Name "_law_e" p1, .Name n p2] [] pos) ρ μ (Bb b) μ := fun h0 h1 h2 h3 h4 => EV.isE M T ⟨h4, .inl ⟨_, rfl, h1⟩⟩ h2 (nm 0 (h := h0)) rfl h3
    have ib : ∀ {ρ : REnv} {n : Str} {c : String} {b : Bool} {pos p0 p1 p2}, ρ[0]? = some (some (.exc p.1 d [(f, x)])) → mg n = none → bootBuiltins n = some (.type c) → n ≠ "__name__" → PySem.W.kitOne K (.ref D) (.type c) = some b → Gl (errX P w K mg base fa cdv B st t G p) n → (n == ("__debug__" : Str)) = false → EV (errX P w K mg base fa cdv B st t G p) (.Call (.Name "isinstance" p0) [.Name "_law_e" p1, .Name n p2] [] pos) ρ μ (Bb b) μ := fun h0 h1 hb hn h2 h3 h4 => EV.isE M T ⟨h4, .inr ⟨_, rfl, h1, hb, hn⟩⟩ h2 (nm 0 (h := h0)) rfl h3
    refine ST.set (i := 1) (EVF.lst (ds := [.bool (0 == n), .bool (1 == n), .bool (2 == n)]) (AV.cons (ie rfl a0 k0 rfl rfl) (AV.cons (ie rfl a1 k1 rfl rfl) (AV.cons (ie rfl a2 k2 rfl rfl) AV.nil)))).ev scLErr.nd rfl (Or.inl rfl) ?_
    refine ST.set (i := 1) (oCat (nm 1) (EVF.lst (ds := [.bool (3 == n), .bool (4 == n), .bool (5 == n)]) (AV.cons (ie rfl a3 k3 rfl rfl) (AV.cons (ie rfl a4 k4 rfl rfl) (AV.cons (ie rfl a5 k5 rfl rfl) AV.nil)))).ev (by exact (show 3 + 3 ≤ sizeLine by decide))) scLErr.nd rfl (Or.inl rfl) ?_
    refine ST.set (i := 1) (oCat (nm 1) (EVF.lst (ds := [.bool (6 == n), .bool (7 == n), .bool (8 == n)]) (AV.cons (ie rfl a6 k6 rfl rfl) (AV.cons (ie rfl a7 k7 rfl rfl) (AV.cons (ie rfl a8 k8 rfl rfl) AV.nil)))).ev (by exact (show 6 + 3 ≤ sizeLine by decide))) scLErr.nd rfl (Or.inl rfl) ?_
    refine ST.set (i := 1) (oCat (nm 1) (EVF.lst (ds := [.bool (9 == n), .bool (10 == n), .bool (11 == n)]) (AV.cons (ie rfl a9 k9 rfl rfl) (AV.cons (ie rfl a10 k10 rfl rfl) (AV.cons (ie rfl a11 k11 rfl rfl) AV.nil)))).ev (by exact (show 9 + 3 ≤ sizeLine by decide))) scLErr.nd rfl (Or.inl rfl) ?_
    refine ST.set (i := 2) (EVF.lst (ds := [.bool (errSort n 0), .bool (errSort n 1), .bool (errSort n 2)]) (AV.cons (ie rfl b0 l0 rfl rfl) (AV.cons (ie rfl b1 l1 rfl rfl) (AV.cons (ie rfl b2 l2 rfl rfl) AV.nil)))).ev scLErr.nd rfl (Or.inl rfl) ?_
    refine ST.set (i := 3) (EVF.lst (ds := [.bool (errSort n 0), .bool (errSort n 1), .bool (errSort n 2)]) (AV.cons (ib rfl c0 (by decide +kernel) (by decide) o0 rfl rfl) (AV.cons (ib rfl c1 (by decide +kernel) (by decide) o1 rfl rfl) (AV.cons (ib rfl c2 (by decide +kernel) (by decide) o2 rfl rfl) AV.nil)))).ev scLErr.nd rfl (Or.inl rfl) ?_
    have no := C.no
    obtain ⟨rfl, rfl⟩ := C.at_
    all_goals
      refine ST.ifNo (WV.tv (WV.orF (tNe (EV.cnt (nm 1) EV.bl rfl rfl) EV.int) (WV.or1 (tNeD (by omega) (nm 3) (nm 2) (by decide +kernel) (by decide +kernel))) (by decide +kernel))) (by decide +kernel) ?_
    · refine ST.set (i := 4) (EV.idx (j := 8) (z := .bool true) (nm 1) EV.bl rfl rfl rfl rfl (idx_no (by decide +kernel))) scLErr.nd rfl (Or.inl rfl) ?_
      refine ST.ifNo (tNeD (by omega) (nm 2) (EVF.lst (ds := [.bool (decide ((8 : Int) < 7)), .bool (eqS (.int 8) (.int 7)), .bool (decide ((7 : Int) < 8))]) (AV.cons (cLt (nm 4) EV.int) (AV.cons (cEq (nm 4) EV.int) (AV.cons (cGt (nm 4) EV.int) AV.nil)))).ev (by decide +kernel) (by decide +kernel)) (by decide +kernel) ?_
      refine ST.set (i := 5) (EVF.lst (ds := (errNs.take 6).map .str) (AV.cons EV.str (AV.cons EV.str (AV.cons EV.str (AV.cons EV.str (AV.cons EV.str (AV.cons EV.str AV.nil))))))).ev scLErr.nd rfl (Or.inl rfl) ?_
      refine ST.set (i := 5) (oCat (nm 5) (EVF.lst (ds := (errNs.drop 6).map .str) (AV.cons EV.str (AV.cons EV.str (AV.cons EV.str (AV.cons EV.str (AV.cons EV.str (AV.cons EV.str AV.nil))))))).ev (by exact (show 6 + 6 ≤ sizeLine by decide))) scLErr.nd rfl (Or.inl rfl) ?_
      refine ST.ifNo (WV.tv (WV.orP (tLt (nm 4) EV.int) (WV.or1 (tEq (nm 4) EV.int)))) (by decide +kernel) ?_
      refine ST.ifNo (tLt (nm 4) EV.int) (by decide +kernel) ?_
      refine ST.ifYes (tEq (nm 4) EV.int) (by decide +kernel) ?_
      exact ST.retP (EVF.lst (ds := errTold 8 x) (AV.cons (ixL (nm 5) (nm 4) rfl) (AV.cons (EV.reprB T2 hgd hu (EV.excF M no (nm 0) rfl) hx) AV.nil))).ev rfl
  · have hw : w0.cut μ.length = w0 := by
      show (⟨w0.α.take μ.length, w0.ξ⟩ : Wd) = w0
      rw [← m.len, List.take_length]
    match oo, ho with
    | .ret r2 μ2, ho =>
      obtain ⟨rfl, rfl⟩ := ho
      intro v H' m' f' hv'
      rw [hw] at m' hv'
      exact q v H' m' f' hv'
end
end J
namespace J
open PySem PySem.Spec
open PyProof.Rows L2
structure ExE0 (X : Cx) (D : Addr) (a : Addr) : Prop where
  cls : ExcC X.K D
  pin : ∃ oe : Obj, (a, oe) ∈ X.pn ∧ Zc (.ref D) none oe ∧ ∃ vs, oe.data = .fields vs
section
variable {X : Cx} {ρ : REnv} {μ μ1 : Sto} {a D : Addr} {o : Expr} {n : Str} {cv : Value} {b : Bool} {pos p p2 : Pos}
theorem call_isP0 (M : ExE0 X D a) : CallR X (.builtin "isinstance") (fun xs H Q => ∃ (c : V) (cv : Value) (b : Bool), xs = [.ref a, c] ∧ (∀ u, RelV c u → u = cv) ∧ PySem.W.kitOne X.K (.ref D) cv = some b ∧ Q (.bl b) H) := by
  intro pins s0 σ H xs us Q I r hh
  obtain ⟨c, cv, b, rfl, hcv, hk, hq⟩ := hh
  obtain ⟨u1, u2, rfl, r1, r2⟩ := vals2 r
  obtain rfl : u1 = Value.ref a := r1
  obtain rfl := hcv _ r2
  obtain ⟨oe, hp, hz, vs, hd⟩ := M.pin
  have C := M.cls
  obtain ⟨hget, _⟩ := I.pin (a, oe) (List.mem_append_left _ hp)
  have J0 : PySem.W.InstAt s0.heap a oe D none := ⟨hget, hz.1, by unfold PySem.W.notCls; rw [hd] <;> rfl, by rw [hz.2]; trivial⟩
  have hcl : (PySem.W.clsIn X.K D).isSome = true := by
    obtain ⟨cd, hc, _⟩ := PySem.W.any_some C.hd
    rw [hc]
    rfl
  exact PySem.W.kia_one (PySem.W.kitx_exc hcl C.hg C.hk C.hs C.ha C.hn C.ht C.hm) I.kIn J0 hk (fun z => nomatch z) fun tk => ⟨.bl b, H, I.kept (t' := tk) fun _ _ z => z, rfl, hq⟩
theorem EV.isE0 (M : ExE0 X D a) (T : X.mg "isinstance" = none) (N : ClsAt X.mg n cv) (hk : PySem.W.kitOne X.K (.ref D) cv = some b) (ho : EV X o ρ μ (.raw (.ref a)) μ1) (hg : Gl X "isinstance" := by rfl) (hgT : Gl X n := by rfl)
    (he : starEach [o, .Name n p2] X.env = (false, eval o X.env) :: starEach [.Name n p2] X.env := by rfl) (he2 : starEach [.Name n p2] X.env = (false, eval (.Name n p2) X.env) :: starEach [] X.env := by rfl) (hpl : (backTo pos (starEach [.Name n p2] X.env)).any (·.1) = false := by rfl) : EV X (.Call (.Name "isinstance" p) [o, .Name n p2] [] pos) ρ μ (Bb b) μ1 := by
  intro w σ H m s Q q
  obtain ⟨hdb, ⟨c, rfl, hm⟩ | ⟨c, rfl, hm, hv, hn⟩⟩ := N
  · refine ⟨_, pe_callB (call_isP0 M) hg T (by decide +kernel) (pa_cons (p_ex (e := o)) (pa_cons (pe_glob (v := .ref c) hgT hm rfl hdb) pa_nil he2) he) (by decide) (by decide) he hpl, ?_⟩
    refine ho w σ H m s _ fun v H1 m1 f1 h1 => ?_
    exact ⟨.ref c, .ref c, b, by rw [show v = V.ref a from h1], fun u hu => hu, hk, q _ H1 m1 f1 (Dq.bl b)⟩
  · refine ⟨_, pe_callB (call_isP0 M) hg T (by decide +kernel) (pa_cons (p_ex (e := o)) (pa_cons (pe_bltn (v := .ty c) hgT hm hv rfl hn hdb) pa_nil he2) he) (by decide) (by decide) he hpl, ?_⟩
    refine ho w σ H m s _ fun v H1 m1 f1 h1 => ?_
    exact ⟨.ty c, .type c, b, by rw [show v = V.ref a from h1], fun u hu => hu, hk, q _ H1 m1 f1 (Dq.bl b)⟩
end
theorem FnE.or {P : Program} {w : World} {K : PySem.W.Frag} {mg : Str → Option Value} {base : Heap} {k : Nat} {f : Addr} {fd : FuncData} {x : Str} {sp sp2 : Addr × Obj → Hp → VK → Prop} (A : FnE P w K mg base k f fd x sp) (B : FnE P w K mg base k f fd x sp2) : FnE P w K mg base k f fd x (fun p G R => sp p G R ∨ sp2 p G R) :=
  ⟨fun b st t G R p h1 h2 h3 h4 h5 h6 => h6.elim (fun z => A.go b st t G R p h1 h2 h3 h4 h5 z) fun z => B.go b st t G R p h1 h2 h3 h4 h5 z⟩
section
variable {X : Cx} {ρ ρ1 : REnv} {ds : List PyData} {pos : Pos} {tgs : List Expr} {is : List Nat}
theorem GV.unl {k : Nat} (h : GsV X tgs ds ρ ρ1 is) (hc : X.calm = true := by rfl) (hn : (assignEach tgs X.env).length = ds.length := by rfl) (hst : (assignEach tgs X.env).findIdx? (·.1) = none := by rfl) : GV X (.Tuple tgs k pos) (.list ds) ρ ρ1 is := by
  intro w σ H μ v m s hv Q q
  cases hv with
  | lst ha hd =>
    refine ⟨_, pg_unl hc (p_gsx (e := tgs)) hn hst, ?_⟩
    exact ⟨_, _, rfl, SqL.of (dl_some ha).2, dqAll_len hd, h w σ H μ _ m s hd Q q⟩
end
end J
namespace J
open PySem PySem.Spec
open PyProof.Rows L2
noncomputable abbrev Err0At (n : Nat) : Prop := n = 9
structure Err0 (K : PySem.W.Frag) (mg : Str → Option Value) (D : Addr) (n : Nat) : Prop where
  cls : ExcC K D
  xfc : XfC K D
  kit : ∀ j, j < 12 → ∃ T, mg (errName j) = some (.ref T) ∧ PySem.W.kitOne K (.ref D) (.ref T) = some (j == n)
  bas : ∀ j, j < 3 → ∃ T, mg (baseNs.getD j Str.empty) = some (.ref T) ∧ PySem.W.kitOne K (.ref D) (.ref T) = some (errSort n j)
  own : ∀ j, j < 3 → mg (ownNs.getD j "") = none ∧ PySem.W.kitOne K (.ref D) (.type (ownNs.getD j "")) = some (errSort n j)
  at_ : Err0At n
noncomputable def spErr0 (K : PySem.W.Frag) (mg : Str → Option Value) (base : Heap) : Addr × Obj → Hp → VK → Prop := fun p G R => ∃ (w : Wd) (μ : Sto) (D : Addr) (od : Option Addr) (n : Nat), Mem K G w μ ∧ Zc (.ref D) od p.2 ∧ Xd G w od [] ∧ (∃ vs, p.2.data = .fields vs) ∧ Err0 K mg D n ∧
  ∀ v H', Mem K H' w μ → Fr w.α G H' → Val K H' w v (Ls [.str (errName n), .str ""]) → R v H'
noncomputable def spErrA (K : PySem.W.Frag) (mg : Str → Option Value) (base : Heap) : Addr × Obj → Hp → VK → Prop := fun p G R => spErr K mg base p G R ∨ spErr0 K mg base p G R
section
variable {w : World} {P : Program} {K : PySem.W.Frag} {base : Heap} {mg : Str → Option Value}
theorem walk0 {fa : Addr} {cdv : Value} {B : Around} {st : List Env} {t : Shared} {G : Hp} {p : Addr × Obj} {D : Addr} {n : Nat} {μ : Sto} (r0 : Ent) (C : Err0 K mg D n) (hu : (errX P w K mg base fa cdv B st t G p).A.units + 100 < cLine) (ie : ∀ {ρ : REnv} {n : Str} {c : Addr} {b : Bool} {pos p0 p1 p2}, ρ[0]? = some (some r0) → mg n = some (.ref c) → PySem.W.kitOne K (.ref D) (.ref c) = some b → Gl (errX P w K mg base fa cdv B st t G p) n → (n == ("__debug__" : Str)) = false → EV (errX P w K mg base fa cdv B st t G p) (.Call (.Name "isinstance" p0) [.Name "_law_e" p1, .Name n p2] [] pos) ρ μ (Bb b) μ)
    (ib : ∀ {ρ : REnv} {n : Str} {c : String} {b : Bool} {pos p0 p1 p2}, ρ[0]? = some (some r0) → mg n = none → bootBuiltins n = some (.type c) → n ≠ "__name__" → PySem.W.kitOne K (.ref D) (.type c) = some b → Gl (errX P w K mg base fa cdv B st t G p) n → (n == ("__debug__" : Str)) = false → EV (errX P w K mg base fa cdv B st t G p) (.Call (.Name "isinstance" p0) [.Name "_law_e" p1, .Name n p2] [] pos) ρ μ (Bb b) μ) :
    ST (errX P w K mg base fa cdv B st t G p) W0 μ.length (defBody sLError) [some r0, none, none, none, none, none] μ (PostR (Ls [.str (errName n), .str ""]) μ) := by
  obtain ⟨T0, a0, k0⟩ := C.kit 0 (by decide)
  obtain ⟨T1, a1, k1⟩ := C.kit 1 (by decide)
  obtain ⟨T2', a2, k2⟩ := C.kit 2 (by decide)
  obtain ⟨T3, a3, k3⟩ := C.kit 3 (by decide)
  obtain ⟨T4, a4, k4⟩ := C.kit 4 (by decide)
  obtain ⟨T5, a5, k5⟩ := C.kit 5 (by decide)
  obtain ⟨T6, a6, k6⟩ := C.kit 6 (by decide)
  obtain ⟨T7, a7, k7⟩ := C.kit 7 (by decide)
  obtain ⟨T8, a8, k8⟩ := C.kit 8 (by decide)
  obtain ⟨T9, a9, k9⟩ := C.kit 9 (by decide)
  obtain ⟨T10, a10, k10⟩ := C.kit 10 (by decide)
  obtain ⟨T11, a11, k11⟩ := C.kit 11 (by decide)
  obtain ⟨U0, b0, l0⟩ := C.bas 0 (by decide)
  obtain ⟨U1, b1, l1⟩ := C.bas 1 (by decide)
  obtain ⟨U2, b2, l2⟩ := C.bas 2 (by decide)
  obtain ⟨c0, o0⟩ := C.own 0 (by decide)
  obtain ⟨c1, o1⟩ := C.own 1 (by decide)
  obtain ⟨c2, o2⟩ := C.own 2 (by decide)
  refine ST.set (i := 1) (EVF.lst (ds := [.bool (0 == n), .bool (1 == n), .bool (2 == n)]) (AV.cons (ie rfl a0 k0 rfl rfl) (AV.cons (ie rfl a1 k1 rfl rfl) (AV.cons (ie rfl a2 k2 rfl rfl) AV.nil)))).ev scLErr.nd rfl (Or.inl rfl) ?_
  refine ST.set (i := 1) (oCat (nm 1) (EVF.lst (ds := [.bool (3 == n), .bool (4 == n), .bool (5 == n)]) (AV.cons (ie rfl a3 k3 rfl rfl) (AV.cons (ie rfl a4 k4 rfl rfl) (AV.cons (ie rfl a5 k5 rfl rfl) AV.nil)))).ev (by exact (show 3 + 3 ≤ sizeLine by decide))) scLErr.nd rfl (Or.inl rfl) ?_
  refine ST.set (i := 1) (oCat (nm 1) (EVF.lst (ds := [.bool (6 == n), .bool (7 == n), .bool (8 == n)]) (AV.cons (ie rfl a6 k6 rfl rfl) (AV.cons (ie rfl a7 k7 rfl rfl) (AV.cons (ie rfl a8 k8 rfl rfl) AV.nil)))).ev (by exact (show 6 + 3 ≤ sizeLine by decide))) scLErr.nd rfl (Or.inl rfl) ?_
  refine ST.set (i := 1) (oCat (nm 1) (EVF.lst (ds := [.bool (9 == n), .bool (10 == n), .bool (11 == n)]) (AV.cons (ie rfl a9 k9 rfl rfl) (AV.cons (ie rfl a10 k10 rfl rfl) (AV.cons (ie rfl a11 k11 rfl rfl) AV.nil)))).ev (by exact (show 9 + 3 ≤ sizeLine by decide))) scLErr.nd rfl (Or.inl rfl) ?_
  refine ST.set (i := 2) (EVF.lst (ds := [.bool (errSort n 0), .bool (errSort n 1), .bool (errSort n 2)]) (AV.cons (ie rfl b0 l0 rfl rfl) (AV.cons (ie rfl b1 l1 rfl rfl) (AV.cons (ie rfl b2 l2 rfl rfl) AV.nil)))).ev scLErr.nd rfl (Or.inl rfl) ?_
  refine ST.set (i := 3) (EVF.lst (ds := [.bool (errSort n 0), .bool (errSort n 1), .bool (errSort n 2)]) (AV.cons (ib rfl c0 (by decide +kernel) (by decide) o0 rfl rfl) (AV.cons (ib rfl c1 (by decide +kernel) (by decide) o1 rfl rfl) (AV.cons (ib rfl c2 (by decide +kernel) (by decide) o2 rfl rfl) AV.nil)))).ev scLErr.nd rfl (Or.inl rfl) ?_
  obtain rfl := C.at_
  all_goals
    refine ST.ifNo (WV.tv (WV.orF (tNe (EV.cnt (nm 1) EV.bl rfl rfl) EV.int) (WV.or1 (tNeD (by omega) (nm 3) (nm 2) (by decide +kernel) (by decide +kernel))) (by decide +kernel))) (by decide +kernel) ?_
  · refine ST.set (i := 4) (EV.idx (j := 9) (z := .bool true) (nm 1) EV.bl rfl rfl rfl rfl (idx_no (by decide +kernel))) scLErr.nd rfl (Or.inl rfl) ?_
    refine ST.ifNo (tNeD (by omega) (nm 2) (EVF.lst (ds := [.bool (decide ((9 : Int) < 7)), .bool (eqS (.int 9) (.int 7)), .bool (decide ((7 : Int) < 9))]) (AV.cons (cLt (nm 4) EV.int) (AV.cons (cEq (nm 4) EV.int) (AV.cons (cGt (nm 4) EV.int) AV.nil)))).ev (by decide +kernel) (by decide +kernel)) (by decide +kernel) ?_
    refine ST.set (i := 5) (EVF.lst (ds := (errNs.take 6).map .str) (AV.cons EV.str (AV.cons EV.str (AV.cons EV.str (AV.cons EV.str (AV.cons EV.str (AV.cons EV.str AV.nil))))))).ev scLErr.nd rfl (Or.inl rfl) ?_
    refine ST.set (i := 5) (oCat (nm 5) (EVF.lst (ds := (errNs.drop 6).map .str) (AV.cons EV.str (AV.cons EV.str (AV.cons EV.str (AV.cons EV.str (AV.cons EV.str (AV.cons EV.str AV.nil))))))).ev (by exact (show 6 + 6 ≤ sizeLine by decide))) scLErr.nd rfl (Or.inl rfl) ?_
    refine ST.ifNo (WV.tv (WV.orP (tLt (nm 4) EV.int) (WV.or1 (tEq (nm 4) EV.int)))) (by decide +kernel) ?_
    refine ST.ifNo (tLt (nm 4) EV.int) (by decide +kernel) ?_
    refine ST.ifNo (tEq (nm 4) EV.int) (by decide +kernel) ?_
    exact ST.retP (EVF.lst (ds := [.str (errName 9), .str ""]) (AV.cons (ixL (nm 5) (nm 4) rfl) (AV.cons (EV.ifx (k := false) (TV.eq (tEq (nm 4) EV.int) (by decide +kernel)) (fun z => by cases z) (fun _ => EV.str)) AV.nil))).ev rfl
theorem okErr0 {fa : Addr} {fd : FuncData} (T : mg "isinstance" = none) (F : Fun K "_law_error" "_law_error" sLError fa fd) : FnE P w K mg base 2 fa fd "_law_e" (spErr0 K mg base) := by
  refine funE F scLErr fun cdv B st t G R p hgd hr h => ?_
  obtain ⟨w0, μ, D, od, n, m, hz, hxd, hf, C, q⟩ := h
  have hu : (errX P w K mg base fa cdv B st t G p).A.units + 100 < cLine := by
    refine Nat.lt_of_le_of_lt ?_ hr.un
    exact Nat.add_le_add_left (show 100 ≤ 16 * 1 + 200 by decide) _
  have fin : ∀ oo, PostR (Ls [.str (errName n), .str ""]) μ oo → Fin (errX P w K mg base fa cdv B st t G p) W0 μ.length w0 G { nx := fun _ G' => R .non G', rt := R } oo := fun oo ho => by
    have hw : w0.cut μ.length = w0 := by
      show (⟨w0.α.take μ.length, w0.ξ⟩ : Wd) = w0
      rw [← m.len, List.take_length]
    match oo, ho with
    | .ret r2 μ2, ho =>
      obtain ⟨rfl, rfl⟩ := ho
      intro v H' m' f' hv'
      rw [hw] at m' hv'
      exact q v H' m' f' hv'
  cases od with
  | none =>
    have M : ExE0 (errX P w K mg base fa cdv B st t G p) D p.1 := ⟨C.cls, p.2, List.mem_cons_self, hz, hf⟩
    exact walk0 (.raw (.ref p.1)) C hu (fun h0 h1 h2 h3 h4 => EV.isE0 M T ⟨h4, .inl ⟨_, rfl, h1⟩⟩ h2 (nm 0 (h := h0)) rfl h3) (fun h0 h1 hb hn h2 h3 h4 => EV.isE0 M T ⟨h4, .inr ⟨_, rfl, h1, hb, hn⟩⟩ h2 (nm 0 (h := h0)) rfl h3) w0 _ G _ (Nat.le_of_eq m.len.symm) m (sl_start (N := nLE) (rs := [.raw (.ref p.1)]) (.cons (r := .raw (.ref p.1)) rfl .nil) (show 1 ≤ 6 by decide)) fin
  | some d =>
    obtain ⟨ws, e, nd, hn, hd⟩ := hxd
    have hv : Val K G w0 (.ref p.1) (.exc p.1 d []) := ⟨rfl, ws, dl_of nd e, hn, hd⟩
    have M : ExE (errX P w K mg base fa cdv B st t G p) D p.1 d := ⟨C.cls, C.xfc, p.2, List.mem_cons_self, hz, hf⟩
    exact walk0 (.exc p.1 d []) C hu (fun h0 h1 h2 h3 h4 => EV.isE M T ⟨h4, .inl ⟨_, rfl, h1⟩⟩ h2 (nm 0 (h := h0)) rfl h3) (fun h0 h1 hb hn h2 h3 h4 => EV.isE M T ⟨h4, .inr ⟨_, rfl, h1, hb, hn⟩⟩ h2 (nm 0 (h := h0)) rfl h3) w0 _ G _ (Nat.le_of_eq m.len.symm) m (sl_start (N := nLE) (rs := [.exc p.1 d []]) (.cons hv .nil) (show 1 ≤ 6 by decide)) fin
end
end J
namespace J
open PySem PySem.Spec
open PyProof.Rows L2
theorem Mem.extN {K : PySem.W.Frag} {H H1 : Hp} {w : Wd} {μ : Sto} (m : Mem K H w μ) (e : LamX.ExtN H H1) (t : LamX.Tabs (tabsK K) H1) : Mem K H1 w μ ∧ Fr w.α H H1 := by
  have f : Fr w.α H H1 := fun b o h _ nt => e b o h nt
  refine ⟨⟨m.nd, m.len, fun k a xs h1 h2 => ?_, m.out, fun b hb => (m.ext b hb).elim fun o h => ⟨o, e b o h.1 h.2.1, h.2⟩, t⟩, f⟩
  obtain ⟨vs, h, hd⟩ := m.cell k a xs h1 h2
  exact ⟨vs, e _ _ h (fun q z => by cases z), dqAll_mono f.all _ _ hd⟩
inductive Caught (K : PySem.W.Frag) (mg : Str → Option Value) (base : Heap) (cs : List Value) (μ : Sto) : Res → List PyData → Prop where
  | toldB {d : PyData} (h : ShoB base d) : Caught K mg base cs μ (.ok (.dat d) μ) [.str "told", .str d.shown]
  | errB {D : Addr} {n : Nat} {f : Str} {x : PyData} (C : ErrC K mg D n f) (h : ShoB base x) (hm : PySem.W.exmAny K (.ref D) cs = some true) : Caught K mg base cs μ (.rse D [(f, x)] μ) (errTold n x)
  | err0 {D : Addr} {n : Nat} (C : Err0 K mg D n) (hm : PySem.W.exmAny K (.ref D) cs = some true) : Caught K mg base cs μ (.rse D [] μ) [.str (errName n), .str ""]
section
variable {K : PySem.W.Frag} {mg : Str → Option Value} {base : Heap} {cs : List Value} {μ : Sto}
theorem Caught.told {d : PyData} (h : Sho d) : Caught K mg base cs μ (.ok (.dat d) μ) [.str "told", .str d.shown] := .toldB (.inl h)
theorem Caught.err {D : Addr} {n : Nat} {f : Str} {x : PyData} (C : ErrC K mg D n f) (h : Sho x) (hm : PySem.W.exmAny K (.ref D) cs = some true) : Caught K mg base cs μ (.rse D [(f, x)] μ) (errTold n x) := .errB C (.inl h) hm
end
noncomputable def TTc (K : PySem.W.Frag) (mg : Str → Option Value) (base : Heap) (cs : List Value) : (XK → Hp → VK → Prop) → Hp → VK → Prop := fun tl H Q => ∃ (w : Wd) (μ : Sto) (o : Res) (xs : List PyData), Mem K H w μ ∧ Caught K mg base cs μ o xs ∧ (∀ (E : XK) (Q' : VK), EndX K w H Q' E o → tl E H Q') ∧ ∀ v H', Mem K H' w μ → Fr w.α H H' → Val K H' w v (Ls xs) → Q v H'
noncomputable abbrev nCau : List Str := ["_law_act", "_law_back", "_law_e"]
theorem scCau : FnScope nCau ["_law_act"] (defScope sLCaught) := ⟨rfl, rfl, rfl, by decide +kernel, rfl, by decide +kernel, by decide +kernel⟩
structure Tel (P : Program) (w : World) (K : PySem.W.Frag) (mg : Str → Option Value) (base : Heap) : Prop where
  ex : ∃ f fd, FnE P w K mg base 2 f fd "_law_e" (spErrA K mg base) ∧ mg "_law_error" = some (.ref f) ∧ PySem.W.keepIn K (.ref f) = true ∧ Binds K fd ["_law_e"] []
section
variable {X : Cx} {ρ : REnv} {μ : Sto} {k : Nat} {c1 c2 c3 : Addr}
theorem xd_some {H : Hp} {w : Wd} {od : Option Addr} {f : Str} {x : PyData} (h : Xd H w od [(f, x)]) : ∃ d, od = some d ∧ ∃ ws : List (Str × V), dl H w.all d = some (.xd ws) ∧ ws.map (·.1) = [f] ∧ DqAll (dl H w.all) (ws.map (·.2)) [x] := by
  cases od with
  | none => cases h
  | some d =>
    obtain ⟨ws, e, nd, hn, hd⟩ := h
    exact ⟨d, rfl, ws, dl_of nd e, hn, hd⟩
noncomputable abbrev catX (X : Cx) (g : Addr) (cdg : Value) (s : Shared) (H : Hp) : Cx := (cxOf C8.CX0 X.prog X.w X.K X.mg X.base nCau "_law_caught" (defScope sLCaught) g cdg X.A X.stack s H C8.E0).nox
theorem caught_gives {g : Addr} {cdg : Value} {q : Str} (T2 : X.mg "repr" = none) (Te : Tel X.prog X.w X.K X.mg X.base) (m1 : X.mg "NotRight" = some (.ref c1)) (m2 : X.mg "NotThere" = some (.ref c2)) (m3 : X.mg "CannotBe" = some (.ref c3)) (hgd : X.A.guards = some []) (hr : Room 4 X.A) :
    LamX.GivesTo X nCau "_law_caught" (defScope sLCaught) g cdg (defBody sLCaught) "_law_act" q (TTc X.K X.mg X.base [.ref c1, .ref c2, .ref c3]) := by
  intro f c' s H Q tl act hc h
  obtain ⟨w, μ, o, xs, m, hcg, htl, hq⟩ := h
  obtain ⟨fE, fdE, FE, mE, kE, bE⟩ := Te.ex
  have hrZ : Room 3 (X.A.deeper (envOfC "_law_caught" (defScope sLCaught) s.heap.objs.size g cdg)) := hr.deeper _
  have sl0 : Sl X.K H w (L2.start nCau [.ref f]) [some (.raw (.ref f)), none, none] := sl_start (N := nCau) (rs := [.raw (.ref f)]) (.cons (r := .raw (.ref f)) rfl .nil) (show 1 ≤ 3 by decide)
  refine ⟨_, pss_cons (ps_try3 (X := catX X g cdg s H) (i := 2) (n := "_law_e") (c1 := c1) (c2 := c2) (c3 := c3)
      (tb := fun W D σ H => ∃ Ech : XK, (∀ cls d σ' H', Ech cls d H' → W cls d σ' H') ∧ σ[0]? = some (some (.ref f)) ∧ H c' = some (LamX.CodeO c' q) ∧ tl Ech H fun v H1 => D.nx (σ.set 1 (some v)) H1)
      (ts := fun a cls d D σ H => (3 ≤ σ.length → σ[2]? = some (some (.ref a))) ∧ ∀ oe, Zc cls d oe → (∃ vs, oe.data = .fields vs) → spErrA X.K X.mg X.base (a, oe) H D.rt)
      rfl rfl scCau.nd rfl rfl rfl m1 (by decide) rfl m2 (by decide) rfl m3 (by decide) (fun W pn xe tk _ => ?_) (fun a oe cls d pn hz hf => ?_)) (pss_one (ps_ret p_ex)), ?_⟩
  · refine ⟨fun pins s' σ H' D I h' => ?_⟩
    obtain ⟨Ech, hW, h1, h2, h3⟩ := h'
    have hp := fun p1 p2 => act W pn xe Ech p1 p2 tk hW
    exact (pss_one (ps_set (i := 1) (x := "_law_back") scCau.nd rfl (Or.inl rfl) (hp _ _) rfl (Or.inr rfl))).run pins s' σ H' D I ⟨h1, h2, h3⟩
  · refine ⟨fun pins s' σ H' D I h' => ?_⟩
    obtain ⟨h1, h2⟩ := h'
    have hlen : σ.length = 3 := I.len
    have hp := fun p p2 pos => pe_callE (p := p) (p2 := p2) (pos := pos) (X := catX X g cdg s H) (a := a) (oe := oe) (pn := pn) (i := 2) (y := "_law_e") (n := "_law_error") FE hgd (L2H.roomH_of (hrZ.mono (by decide))) rfl mE kE bE rfl (Or.inl rfl)
    exact (pss_one (ps_ret (hp _ _ _))).run pins s' σ H' D I ⟨h1 (by omega), h2 oe hz hf⟩
  · cases hcg with
    | @toldB d hd =>
      refine ⟨fun _ _ _ => False, (fun _ _ _ _ z => z.elim), rfl, hc, htl _ _ ?_⟩
      intro v H1 mm ff hv
      have hu : (catX X g cdg s H).A.units + 100 < cLine := Nat.lt_of_le_of_lt (Nat.add_le_add_left (show 100 ≤ 16 * 3 + 200 by decide) _) hrZ.un
      refine use_ev (X := catX X g cdg s H) (μ := μ) (EVF.lst (ds := [.str "told", .str d.shown]) (AV.cons EV.str (AV.cons (EV.reprB (X := catX X g cdg s H) T2 hgd hu (nm 1) hd) AV.nil))).ev mm ((sl0.fr ff).set (i := 1) hv) fun u H2 m2' f2 h2 => hq u H2 m2' (ff.trans f2) h2
    | @errB D n fl x C hx hm =>
      refine ⟨fun cls od H' => cls = .ref D ∧ Mem X.K H' w μ ∧ Fr w.α H H' ∧ Xd H' w od [(fl, x)], ?_, rfl, hc, htl _ _ fun od H' mm ff hxd => ⟨rfl, mm, ff, hxd⟩⟩
      rintro cls od σ' H' ⟨rfl, mm, ff, hxd⟩
      obtain ⟨dd, rfl, ws, e, hn, hd⟩ := xd_some hxd
      refine ⟨hm, fun a na => ⟨fun hl => ?_, fun oe hz hf => .inl ⟨w, μ, D, dd, n, fl, x, mm, ⟨rfl, ws, e, hn, hd⟩, hz, hf, C, hx, fun v H2 m2' f2 h2 => hq v H2 m2' (ff.trans f2) h2⟩⟩⟩
      have hl' : 2 < σ'.length := by
        have hl2 : 3 ≤ σ'.length := by simpa using hl
        omega
      simp [hl']
    | @err0 D n C hm =>
      refine ⟨fun cls od H' => cls = .ref D ∧ Mem X.K H' w μ ∧ Fr w.α H H' ∧ Xd H' w od [], ?_, rfl, hc, htl _ _ fun od H' mm ff hxd => ⟨rfl, mm, ff, hxd⟩⟩
      rintro cls od σ' H' ⟨rfl, mm, ff, hxd⟩
      refine ⟨hm, fun a na => ⟨fun hl => ?_, fun oe hz hf => .inr ⟨w, μ, D, od, n, mm, hz, hxd, hf, C, fun v H2 m2' f2 h2 => hq v H2 m2' (ff.trans f2) h2⟩⟩⟩
      have hl' : 2 < σ'.length := by
        have hl2 : 3 ≤ σ'.length := by simpa using hl
        omega
      simp [hl']
theorem tabs_mem {K : PySem.W.Frag} {x : Str} {c P : Addr} (h : lamTab K x = some (c, P)) (hx : x ∈ lamDefs) : (P, x ++ ".<locals>." ++ "<lambda>") ∈ tabsK K := List.mem_filterMap.mpr ⟨x, hx, by rw [h]; rfl⟩
theorem EV.caught {x : Str} {cdv : Value} {params : Arguments} {body : Expr} {scope : Scope} {o : Res} {xs : List PyData} {p lpos pos : Pos} (L : LamD X.K X.mg X.base x cdv) (hq : X.env.qual = x ++ ".<locals>.") (hcode : X.env.code = cdv) (D : Df X.K X.mg "_law_caught" sLCaught)
    (T2 : X.mg "repr" = none) (Te : Tel X.prog X.w X.K X.mg X.base) (m1 : X.mg "NotRight" = some (.ref c1)) (m2 : X.mg "NotThere" = some (.ref c2)) (m3 : X.mg "CannotBe" = some (.ref c3)) (hgd : X.A.guards = some []) (hr : Room (k + 2) X.A) (hk : 2 ≤ k) (hC : Caught X.K X.mg X.base [.ref c1, .ref c2, .ref c3] μ o xs)
    (hb : ∀ (A : Around) (outer : List Env) (s : Shared) (H : Hp) (E : XK) (f c' : Addr), Room k (A.deeper (LamX.lamEnv X scope s.heap.objs.size f c')) → EVR (LamX.lamCx X A outer s H E scope f c') (fun cls d _ H => E cls d H) body ρ μ o)
    (hg : Gl X "_law_caught" := by rfl) (hL : LamX.lamSB X.env.scope scope = true := by decide +kernel) (hdef : defaultsOf params X.env = ([], []) := by rfl) (hbind : ∀ (q : Str) (cl : List (Str × Addr)) (pm cv ctv : Value), bindArgs (PySem.W.kla_fn "<lambda>" q params body scope cl pm cv ctv) ⟨[], []⟩ = pure [] := by exact fun _ _ _ _ _ => rfl) :
    EV X (.Call (.Name "_law_caught" p) [.Lambda params body scope lpos] [] pos) ρ μ (Ls xs) μ := by
  intro w σ H m s Q q
  obtain ⟨c, P, ht, rfl, TB, hx, hu⟩ := L.ex
  obtain ⟨g, fd, F, hm⟩ := D.ex
  have hbi := F.binds (fun _ _ _ _ _ _ us hl => len1 us hl fun _ => rfl) (ps := ["_law_act"])
  obtain ⟨oc, od, kV, doc, pm, an, cdg, ct, osl, rfl, lk, hcg⟩ := F.ex
  have hmem := tabs_mem ht hx
  rw [← hq] at hmem hu
  refine ⟨_, LamX.pe_lamcall (T := tabsK X.K) (TT := TTc X.K X.mg X.base [.ref c1, .ref c2, .ref c3]) (x := "_law_caught") (a := "_law_act") (Ng := nCau) (k := k) (t := fun E σ H Q => ∀ (A : Around) (outer : List Env) (s : Shared) (H0 : Hp) (f c' : Addr), Room k (A.deeper (LamX.lamEnv X scope s.heap.objs.size f c')) → EX (LamX.lamCx X A outer s H0 E scope f c') body σ H Q)
    hg hm F.kp lk hcg hbi scCau rfl (Or.inl rfl) (caught_gives T2 Te m1 m2 m3 hgd (hr.mono (by omega))) TB hcode hmem hu hr (LamX.lamS_by hL) hdef hbind (fun A outer s0 H0 E f c' hr2 => ⟨fun pins s1 σ1 H1 Q1 I h => (p_ex (e := body)).run pins s1 σ1 H1 Q1 I (h A outer s0 H0 f c' hr2)⟩), ?_⟩
  refine ⟨m.tab, fun H1 eN T1 => ?_⟩
  obtain ⟨m1', f1⟩ := m.extN eN T1
  refine ⟨w, μ, o, xs, m1', hC, fun E Q' hE A outer s0 H0 f c' hr2 => hb A outer s0 H0 E f c' hr2 w σ H1 m1' (s.fr f1) Q' ?_, fun v H2 m2' f2 h2 => q v H2 m2' (f1.trans f2) h2⟩
  cases o with
  | ok r ν => exact hE
  | rse C fs ν => exact hE
end
end J
namespace J
open PySem PySem.Spec
open PyProof.Rows L2
section
variable {w : World} {P : Program} {K : PySem.W.Frag} {base : Heap} {mg : Str → Option Value} {C : Addr}
noncomputable def spLawT (K : PySem.W.Frag) : Sp := fun vs H Q _ => ∃ (a : Addr) (ns : List Int), vs = [V.ref a] ∧ SqL K H a (ns.map V.int) ∧ LamX.Tabs (tabsK K) H ∧ ∀ H', Q (.bl true) H'
theorem seq_dl {H : Hp} {a : Addr} {xs : List V} (h : SqL K H a xs) : SqL K (dl H (Wd.mk [] []).all) a xs := by
  have nin : a ∉ (Wd.mk [] []).all := fun z => by cases z
  rcases h with (h | ⟨o, h⟩) | h
  · exact .inl (.inl (dl_of nin h))
  · exact .inl (.inr ⟨o, dl_of nin h⟩)
  · exact .inr h
theorem mem0 {G : Hp} (t : LamX.Tabs (tabsK K) G) : Mem K G ⟨[], []⟩ [] := ⟨List.nodup_nil, rfl, (fun k a xs h1 => by simp at h1), (fun b hb => by cases hb), (fun b hb => by cases hb), t⟩
theorem len_mx (m : Nat) (h2 : 2 ≤ m) (z : Int) (h0 : 0 ≤ z) : ∃ n : Nat, n ≤ m ∧ (if (if (m : Int) < z then (m : Int) else z) > 2 then (if (m : Int) < z then (m : Int) else z) else 2) = (n : Int) := by
  by_cases h1 : (m : Int) < z
  · rw [if_pos h1]
    by_cases h3 : (m : Int) > 2
    · rw [if_pos h3]
      exact ⟨m, Nat.le_refl _, rfl⟩
    · rw [if_neg h3]
      exact ⟨2, h2, rfl⟩
  · rw [if_neg h1]
    by_cases h2 : z > 2
    · rw [if_pos h2]
      exact ⟨z.toNat, by omega, by omega⟩
    · rw [if_neg h2]
      exact ⟨2, by omega, rfl⟩
theorem gLawS {N : List Str} {kr : Nat} (Sc : FnScope N ["_law_script"] (defScope sLaw)) (h1 : 1 ≤ N.length) {f : Addr} {fd : FuncData} (F : Fun K "law" "law" sLaw f fd)
    (body : ∀ (cdv : Value) (B : Around) (o : List Env) (t : Shared) (G : Hp) (E : XK) (ns : List Int), B.guards = some [] → Room kr (B.deeper (envOfC "law" (defScope sLaw) t.heap.objs.size f cdv)) →
      ST (cxOf CX0 P w K mg base N "law" (defScope sLaw) f cdv B o t G E).nox W0 0 (defBody sLaw) (some (.scr ns) :: List.replicate (N.length - 1) none) [] (PostR (Bb true) [])) : FnG P w K mg base (kr + 1) f fd ["_law_script"] (spLawT K) := by
  refine funG F Sc (fun xs G R E h => ?_) (fun cdv B o t G xs R E hgd hr h => ?_)
  · obtain ⟨a, ns, rfl, _⟩ := h
    rfl
  · obtain ⟨a, ns, rfl, hs, ht, q⟩ := h
    refine (body cdv B o t G E ns hgd hr) ⟨[], []⟩ _ G _ (Nat.zero_le _) (mem0 ht) (sl_start (N := N) (rs := [.scr ns]) (.cons (r := .scr ns) ⟨a, rfl, seq_dl hs⟩ .nil) h1) fun oo ho => ?_
    match oo, ho with
    | .ret r2 μ2, ho =>
      obtain ⟨rfl, rfl⟩ := ho
      intro v H' m' f' hv'
      cases hv'
      exact q H'
structure TabF (K : PySem.W.Frag) (g : Heap) (cp : Addr × Addr) : Prop where
  emp : g.get? cp.2 = some { cls := .none, data := .fields #[] }
  out : K.lookup cp.2 = none
  code : PySem.W.CodeHd g cp.1 cp.2
theorem callT {mb : Str → Option Value} {k : Nat} {fa a : Addr} {cs : List (Addr × Addr)} {fd : FuncData} {x : Str} {t : Shared} {us : List Value} {ns : List Int} {sp : Sp}
    (inK : K.In t.heap) (gns : t.heap.Ns mainGlobals mg) (bns : t.heap.Ns builtinsNs mb) (bts : ∀ z : Str, z ≠ "__name__" → mb z = bootBuiltins z) (nol : t.heap.NoLimit) (ngen : t.gens = #[]) (tf : ∀ cp ∈ cs, TabF K t.heap cp)
    (bmn : ∃ (bm : Addr) (ob : Obj), mg "__builtins__" = some (.ref bm) ∧ bm ≠ builtinsNs ∧ t.heap.get? bm = some ob ∧ ob.cls = .type "module" ∧ ob.dict = some builtinsNs ∧ ob.data = .plain)
    (scr : t.heap.get? a = some { cls := .type "list", data := .seq us.toArray }) (his : IntsAre us ns) (small : ns.length ≤ sizeLine) (room : Room k callerA)
    (hF : ∀ bs : Heap, K.In bs → bs.Ns mainGlobals mg → (∀ cp ∈ cs, LamX.TabB bs mg cp.1 cp.2) → FnG P w K mg bs k fa fd [x] sp) (bnd : ∀ (t : Shared) (u : Value), BindsTo t fd ⟨[u], []⟩ [(x, u)])
    (hsp : ∀ G : Hp, (∀ cp ∈ cs, G cp.2 = some (.tbl #[])) → SqL K G a (ns.map V.int) → sp [.ref a] G (fun v _ => v = .bl true) fun _ _ _ => False) :
    codeAny (model P w) callerA (.call (.ref fa) ⟨[.ref a], []⟩) (fun r t' => r = .ok (.ret (.bool true)) ∧ OldK t.heap t'.heap ∧ t'.os = t.os ∧ AllBare t'.gens) t := by
  have vals := vals_ints his
  have many := his.length
  have tab0 : ∀ b : Addr, b ∈ cs.map (·.2) → t.heap.get? b = some { cls := .none, data := .fields #[] } := fun b hb => by
    obtain ⟨cp, hcp, rfl⟩ := List.mem_map.mp hb
    exact (tf cp hcp).emp
  have scrT : a ∉ cs.map (·.2) := fun hb => by
    have e1 := tab0 a hb
    rw [scr] at e1
    cases (show Data.seq us.toArray _ = Data.fields #[] from congrArg Obj.data (Option.some.inj e1))
  have inT : ∀ cp ∈ cs, cp.2 ∈ cs.map (·.2) := fun cp hcp => List.mem_map_of_mem hcp
  have main : ∀ G : Hp, (∀ cp ∈ cs, G cp.2 = some (.tbl #[])) → (∀ b, b ∉ cs.map (·.2) → G b = none ∨ ∃ ob ys, G b = some (.frz ob (.lst ys))) → SqL K G a (ns.map V.int) → HOk P w G t.heap → (∀ b, G b ≠ none → b = a ∨ b ∈ cs.map (·.2)) → (G a ≠ none → K.lookup a = none) →
      codeAny (model P w) callerA (.call (.ref fa) ⟨[.ref a], []⟩) (fun r t' => r = .ok (.ret (.bool true)) ∧ OldK t.heap t'.heap ∧ t'.os = t.os ∧ AllBare t'.gens) t := by
    intro G tabs only seq ok here lost
    have nothing : ∀ {b : Addr} {o : Obj}, t.heap.get? b = some o → (∀ ys n, o.data ≠ .seq ys n) → o.data ≠ .fields #[] → G b = none := fun {b o} e1 d1 d2 => by
      cases z : G b with
      | none => rfl
      | some u =>
        rcases here b (by rw [z]; exact Option.some_ne_none u) with ba | ba
        · rw [ba, scr] at e1
          cases e1
          exact absurd rfl (d1 _ _)
        · rw [tab0 b ba] at e1
          cases e1
          exact absurd rfl d2
    have noD : ∀ {b : Addr} {o : Obj} {es : Array DictEntry} {ep : Nat}, t.heap.get? b = some o → o.data = .dict es ep → G b = none := fun {b o es ep} e1 e2 => nothing e1 (fun ys n z => by rw [e2] at z; cases z) (fun z => by rw [e2] at z; cases z)
    have nsB : ∀ {b : Addr} {m : Str → Option Value}, t.heap.Ns b m → (hidT t.heap G).Ns b m := fun {b m} h => by
      obtain ⟨o, es, ep, e1, e2, e3⟩ := h
      exact ⟨o, es, ep, hidT_get e1 (noD e1 e2), e2, e3⟩
    have inB : K.In (hidT t.heap G) := fun b o e1 => hidT_get (inK b o e1) (by
      cases z : G b with
      | none => rfl
      | some u =>
        rcases here b (by rw [z]; exact Option.some_ne_none u) with ba | ba
        · rw [ba, lost (by rw [← ba, z]; exact Option.some_ne_none u)] at e1
          cases e1
        · obtain ⟨cp, hcp, ec⟩ := List.mem_map.mp ba
          rw [← ec, (tf cp hcp).out] at e1
          cases e1)
    have nolB : (hidT t.heap G).NoLimit := by
      obtain ⟨mc, l1, l2⟩ := nol
      exact ⟨mc, nsB l1, l2⟩
    have md : Mod K mg (hidT t.heap G) := ⟨inB, nsB gns, ⟨mb, nsB bns, bts⟩, nolB⟩
    have tb : ∀ cp ∈ cs, LamX.TabB (hidT t.heap G) mg cp.1 cp.2 := fun cp hcp => by
      have F0 := tf cp hcp
      refine ⟨?_, ?_, fun z => ?_⟩
      · obtain ⟨o, ws, file, tf', flags, tg, inF, text, tt, q1, q2, q3, q4, q5, q6, q7, q8, q9, qn⟩ := F0.code
        refine ⟨o, ws, file, tf', flags, tg, inF, text, tt, hidT_get q1 (nothing q1 (fun ys n z => ?_) fun z => ?_), q2, q3, q4, q5, q6, q7, q8, q9, qn⟩
        · rw [q3] at z
          cases z
        · rw [q3] at z
          cases z
          simp at q4
      · obtain ⟨bm, ob, b1, b2, b3, b4, b5, b6⟩ := bmn
        have notG : bm ≠ mainGlobals := fun z => by
          obtain ⟨o, es, ep, e1, e2, _⟩ := gns
          rw [z, e1] at b3
          cases b3
          rw [b6] at e2
          cases e2
        have notP : bm ≠ cp.2 := fun z => by
          rw [z, F0.emp] at b3
          cases b3
          cases b6
        refine ⟨bm, ob, b1, b2, notG, notP, hidT_get b3 (nothing b3 (fun ys n z => ?_) fun z => ?_), b4, b5, b6⟩
        · rw [b6] at z
          cases z
        · rw [b6] at z
          cases z
      · obtain ⟨o, es, ep, e1, e2, _⟩ := gns
        rw [z, F0.emp] at e1
        cases e1
        cases e2
    have en : Env0 P w K mg (hidT t.heap G) callerA [] t G := ⟨rfl, md, fun b o e1 => of_hidT e1, Nat.le_of_eq (hidT_size _ _), trivial, fun b hb => absurd (show b ∈ ([] : List Addr) from hb) List.not_mem_nil, ok, .of_eq ngen⟩
    refine codeAny_mono ((hF _ inB (nsB gns) tb).go callerA [] t G ⟨[.ref a], []⟩ [.ref a] [.ref a] _ _ rfl room en (bnd t (.ref a)) (.cons rfl .nil) (hsp G tabs seq)) fun r t' h => ?_
    match r, h with
    | .ok (.ret u), h =>
      obtain ⟨v, G', e1, e2, un, ok', rel, hv⟩ := h
      have hv' : v = .bl true := hv
      subst hv'
      obtain rfl : u = Value.bool true := rel
      have grown : ∀ cp ∈ cs, ∃ more : Array Value, t'.heap.get? cp.2 = some { cls := .none, data := .fields more } := fun cp hcp => by
        obtain ⟨more, z⟩ := un.tbls cp.2 #[] (tabs cp hcp)
        exact ⟨_, ok' cp.2 _ z⟩
      have rest : ∀ b o, b ∉ cs.map (·.2) → t.heap.get? b = some o → t'.heap.get? b = some o := fun b o nb e3 => by
        cases z : G b with
        | none => exact un.keep b o e3 z (fun y => absurd (show b ∈ ([] : List Addr) from y) List.not_mem_nil) List.not_mem_nil
        | some u =>
          rcases only b nb with y | ⟨ob, xs, y⟩
          · rw [z] at y
            cases y
          · obtain ⟨g1, _⟩ := ok b _ y
            obtain ⟨g2, _⟩ := ok' b _ (un.frzs b ob _ y)
            rw [e3] at g1
            cases g1
            exact g2
      refine ⟨rfl, ⟨fun b o e3 => ?_, fun b o e3 => ?_⟩, e1, e2⟩
      · rcases Decidable.em (b ∈ cs.map (·.2)) with hb | hb
        · obtain ⟨cp, hcp, rfl⟩ := List.mem_map.mp hb
          obtain ⟨more, hm⟩ := grown cp hcp
          have F0 := tf cp hcp
          rw [F0.emp] at e3
          cases e3
          exact .inr (.inl ⟨(F0.code.tab F0.emp).isCodeTable, rfl, #[], more, rfl, by rw [Array.empty_append]; exact hm⟩)
        · exact .inl (rest b o hb e3)
      · rcases Decidable.em (b ∈ cs.map (·.2)) with hb | hb
        · obtain ⟨cp, hcp, rfl⟩ := List.mem_map.mp hb
          exact (grown cp hcp).elim fun more hm => ⟨_, hm⟩
        · exact ⟨o, rest b o hb e3⟩
  cases hk : K.lookup a with
  | some o =>
    have e1 := inK a o hk
    rw [scr] at e1
    cases e1
    have at_t : ∀ b, b ∉ cs.map (·.2) → (if b ∈ cs.map (·.2) then some (HO.tbl #[]) else none) = none := fun b hb => if_neg hb
    refine main (fun b => if b ∈ cs.map (·.2) then some (.tbl #[]) else none) (fun cp hcp => if_pos (inT cp hcp)) (fun b hb => .inl (at_t b hb)) (.inr ⟨_, us.toArray, _, hk, rfl, rfl, rfl, by rw [List.size_toArray, many]; exact small, by simpa using vals⟩) (fun b u z => ?_) (fun b z => ?_) (fun z => absurd (at_t a scrT) z)
    · rcases Decidable.em (b ∈ cs.map (·.2)) with hb | hb
      · cases (if_pos hb).symm.trans z
        exact tab0 b hb
      · cases (if_neg hb).symm.trans z
    · rcases Decidable.em (b ∈ cs.map (·.2)) with hb | hb
      · exact .inr hb
      · exact absurd (at_t b hb) z
  | none =>
    refine main (fun b => if b = a then some (.frz { cls := .type "list", data := .seq us.toArray } (.lst (ns.map V.int))) else if b ∈ cs.map (·.2) then some (.tbl #[]) else none) (fun cp hcp => ?_) (fun b hb => ?_) (.inl (.inr ⟨_, if_pos rfl⟩)) (fun b u z => ?_) (fun b z => ?_) (fun _ => hk)
    · have na : cp.2 ≠ a := fun z => scrT (by rw [← z]; exact inT cp hcp)
      exact (if_neg na).trans (if_pos (inT cp hcp))
    · rcases Decidable.em (b = a) with ha | ha
      · exact Or.inr ⟨_, _, if_pos ha⟩
      · exact Or.inl ((if_neg ha).trans (if_neg hb))
    · rcases Decidable.em (b = a) with ha | ha
      · subst ha
        cases (if_pos rfl).symm.trans z
        exact ⟨scr, by rw [List.length_map]; exact small, us, _, vals, scr⟩
      · have z1 := (if_neg ha).symm.trans z
        rcases Decidable.em (b ∈ cs.map (·.2)) with hb | hb
        · cases (if_pos hb).symm.trans z1
          exact tab0 b hb
        · cases (if_neg hb).symm.trans z1
    · rcases Decidable.em (b = a) with ha | ha
      · exact .inl ha
      · rcases Decidable.em (b ∈ cs.map (·.2)) with hb | hb
        · exact .inr hb
        · exact absurd ((if_neg ha).trans (if_neg hb)) z
noncomputable def lamTabs (K : PySem.W.Frag) : List (Addr × Addr) := lamDefs.filterMap fun x => lamTab K x
noncomputable def lamOk (K : PySem.W.Frag) : Bool := lamDefs.all fun x => match lamTab K x with
  | some (_, P) => (tabsK K).all (fun p => decide (p.1 = P → p.2 = x ++ ".<locals>." ++ "<lambda>"))
  | none => true
noncomputable def tabOk (K : PySem.W.Frag) (ts : List Addr) : Bool := (lamTabs K).all fun cp => ts.contains cp.2 && ((K.lookup cp.2).isNone && PySem.W.codeHdIn K cp.1 cp.2)
theorem tabF_of {KK : Params → PySem.W.Frag} {as : List Addr} {e : ∀ P, as = (KK P).map (·.1)} {ts : List Addr} {w : World} {h : Heap} (Y : (PySem.W.kmHook KK as e ts).says w h) (hk : tabOk (KK w.params) ts = true) : (KK w.params).In h ∧ ∀ cp ∈ lamTabs (KK w.params), TabF (KK w.params) h cp := by
  have inK := PySem.W.km_in_of Y
  refine ⟨inK, fun cp hcp => ?_⟩
  have z := List.all_eq_true.mp hk cp hcp
  simp only [Bool.and_eq_true] at z
  obtain ⟨z1, z2, z3⟩ := z
  exact ⟨PySem.W.km_tabs_of Y cp.2 (by simpa using z1), by simpa using z2, PySem.W.codeHd_of_K inK z3⟩
theorem tabs_start {H : Hp} (h : ∀ cp ∈ lamTabs K, H cp.2 = some (.tbl #[])) : LamX.Tabs (tabsK K) H := fun p hp => by
  obtain ⟨x, hx, e⟩ := List.mem_filterMap.mp hp
  cases ht : lamTab K x with
  | none => rw [ht] at e; cases e
  | some cp =>
    rw [ht] at e
    cases e
    exact LamX.TabS.nil (h cp (List.mem_filterMap.mpr ⟨x, hx, ht⟩))
theorem walkT {l : PySem.W.OpenLaw} {n k : Nat} {q : Program} {loose : List Str} {XP : (Str → Option Value) → Heap → Prop} {YP : World → Heap → Prop} {d : DefRec} {KK : Params → PySem.W.Frag} {x : Str}
    (hn : l.most = some n) (hn2 : n ≤ sizeLine) (hdf : d.params.defaults = []) (room : Room k callerA) (hY : ∀ (w : World) (h : Heap), YP w h → (KK w.params).In h ∧ ∀ cp ∈ lamTabs (KK w.params), TabF (KK w.params) h cp) (hO : ∀ w : World, lamOk (KK w.params) = true)
    (F : ∀ (w : World) (mg : Str → Option Value) (fa : Addr) (h : Heap), (KK w.params).In h → h.Ns mainGlobals mg → mg d.name = some (.ref fa) →
      ∃ fd : FuncData, (∀ (t : Shared) (u : Value), BindsTo t fd ⟨[u], []⟩ [(x, u)]) ∧ ∀ bs : Heap, (KK w.params).In bs → bs.Ns mainGlobals mg → (∀ y ∈ lamDefs, (lamTab (KK w.params) y).isSome = true → LamB (KK w.params) mg bs y) → FnG l.prog w (KK w.params) mg bs k fa fd [x] (spLawT (KK w.params))) : PySem.W.WalkO q loose XP YP l.row.toRowW d [] (fun f vs => PySem.call f vs) := by
  refine Att.attach_call hn hdf fun w s0 t mg mb fa o pm cd doc a us ns Gd Y ho hd hcd hm hobj hi hlen hg => ?_
  obtain ⟨inK, tf⟩ := hY w _ Y
  have O := List.all_eq_true.mp (hO w)
  obtain ⟨fd, hb, hF⟩ := F w mg fa _ inK Gd.T.g hm
  refine callT (cs := lamTabs (KK w.params)) inK Gd.T.g Gd.T.b Gd.T.builtins Gd.T.nolimit hg tf Gd.T.bmain hobj hi (Nat.le_trans hlen hn2) room (fun bs i1 i2 tb => hF bs i1 i2 fun y hy hs => ?_) hb fun G tabs seq => ⟨a, ns, rfl, seq, tabs_start tabs, fun _ => rfl⟩
  cases ht : lamTab (KK w.params) y with
  | none => rw [ht] at hs; cases hs
  | some cp =>
    obtain ⟨c, Pt⟩ := cp
    have z := O y hy
    rw [ht] at z
    refine ⟨c, Pt, ht, tb _ (List.mem_filterMap.mpr ⟨y, hy, ht⟩), hy, fun p hp hpe => ?_⟩
    have z3 := List.all_eq_true.mp z p hp
    exact of_decide_eq_true z3 hpe
end
end J
namespace J
open PySem PySem.Spec
open PyProof.Rows L2
noncomputable def pickD {α : Type} (xs : List α) (lo hi st : Option Int) : List α := (sliceRange (sliceBounds lo hi st xs.length).1 (sliceBounds lo hi st xs.length).2.1 (sliceBounds lo hi st xs.length).2.2).filterMap (xs[·]?)
theorem pickD_map {α β : Type} (f : α → β) (xs : List α) (lo hi st : Option Int) : pickD (xs.map f) lo hi st = (pickD xs lo hi st).map f := by
  unfold pickD
  rw [List.length_map, List.map_filterMap]
  congr 1
  funext i
  rw [List.getElem?_map]
theorem pick_pick (its : List Value) (lo hi st : Option Int) : slicePick its.toArray lo hi st = (pickD its lo hi st).toArray := by
  unfold slicePick pickD
  rw [List.size_toArray]
  congr 1
  congr 1
  funext i
  simp
theorem vals_pick {xs : List V} {us : List Value} (h : Vals xs us) (lo hi st : Option Int) : Vals (pickD xs lo hi st) (pickD us lo hi st) := by
  unfold pickD
  rw [h.length]
  have at_ : ∀ {vs : List V} {us : List Value} (i : Nat), Vals vs us → (vs[i]? = none ∧ us[i]? = none) ∨ ∃ v u, vs[i]? = some v ∧ us[i]? = some u ∧ RelV v u := by
    intro vs us i hv
    induction hv generalizing i with
    | nil => exact .inl ⟨by simp, by simp⟩
    | cons r t ih =>
      cases i with
      | zero => exact .inr ⟨_, _, by simp, by simp, r⟩
      | succ i =>
        rcases ih i with ⟨a, b⟩ | ⟨v, u, a, b, r⟩
        · exact .inl ⟨by simpa using a, by simpa using b⟩
        · exact .inr ⟨v, u, by simpa using a, by simpa using b, r⟩
  generalize sliceRange _ _ _ = is
  induction is with
  | nil => exact .nil
  | cons i is ih =>
    rw [List.filterMap_cons, List.filterMap_cons]
    rcases at_ i h with ⟨a, b⟩ | ⟨v, u, a, b, r⟩
    · rw [a, b]
      exact ih
    · rw [a, b]
      exact .cons r ih
theorem dq_pick {H : Hp} {vs : List V} {ds : List PyData} (h : DqAll H vs ds) (lo hi st : Option Int) : DqAll H (pickD vs lo hi st) (pickD ds lo hi st) := by
  unfold pickD
  rw [dqAll_len h]
  generalize sliceRange _ _ _ = is
  induction is with
  | nil => exact .nil
  | cons i is ih =>
    rw [List.filterMap_cons, List.filterMap_cons]
    cases e : ds[i]? with
    | none =>
      have e2 : vs[i]? = none := by
        rw [List.getElem?_eq_none_iff] at e ⊢
        rw [dqAll_len h]
        exact e
      rw [e2]
      exact ih
    | some d =>
      obtain ⟨v, e2, dv⟩ := dqAll_get h e
      rw [e2]
      exact .cons dv ih
section
variable {X : Cx} {e : Expr} {lo hi st : Option Expr} {te : TE} {tl th ts : TO} {p2 pos : Pos}
theorem pe_slice3 (he : PE X e te) (hl : PO X lo tl) (hu : PO X hi th) (hs : PO X st ts) (hops : ∀ (v w : Value), subscripted (.Slice lo hi st p2) false v w = operate [v, w] (getItem v w) := by intro _ _; with_unfolding_all rfl) :
    PE X (.Subscript e (.Slice lo hi st p2) pos) (fun σ H Q => te σ H fun x H1 => tl σ H1 fun l H2 => th σ H2 fun u H3 => ts σ H3 fun k H4 => k ≠ some 0 ∧ ∃ a xs, x = .ref a ∧ SqL X.K H4 a xs ∧ (pickD xs l u k).length ≤ sizeLine ∧ ∀ p, H4 p = none → Q (.ref p) (upd H4 p (.lst (pickD xs l u k)))) := by
  refine ⟨fun pins s σ H Q I h => ?_⟩
  refine Subscript_ (thn (he.run pins s σ H _ I h) fun v s1 hpat => ?_)
  obtain ⟨x, H1, I1, r1, q1⟩ := hpat
  refine wpAny_Slice (thn (hl.run pins s1 σ H1 _ I1 q1) fun vl s2 ⟨l, H2, I2, pl, q2⟩ => thn (hu.run pins s2 σ H2 _ I2 q2) fun vu s3 ⟨u, H3, I3, pu, q3⟩ => thn (hs.run pins s3 σ H3 _ I3 q3) fun vk s4 hpat => ?_)
  obtain ⟨k, H4, I4, pk, h0, a, xs, ex, hx, hw, q4⟩ := hpat
  subst ex
  cases r1
  have I5 : Inv X pins σ H4 { s4 with heap := s4.heap.push { cls := .type "slice", data := .fields #[vl, vu, vk] } } := I4.kept (t' := s4.toks) fun b ob q => Heap.get?_push_of_some _ q
  obtain ⟨its, r, ht, hz⟩ := I5.list hx
  show wpAny (model X.prog X.w) X.A (subscriptTail e (.Slice lo hi st p2) (.ref a) (.ref s4.heap.objs.size)) (EP X pins σ Q) X.xe { s4 with heap := s4.heap.push { cls := .type "slice", data := .fields #[vl, vu, vk] } }
  refine tail_any (ops := [.ref a, .ref s4.heap.objs.size]) ht.isList.typeIs slot_list_getitem.lookup ?_ (hops _ _)
  refine wpAny_getItem_list_slice ht.isList (Heap.IsSliceOf.new ..) pl pu pk h0 ?_ (by rw [List.size_toArray]; have := r.length; omega)
  rw [pick_pick]
  have rv := vals_pick r l u k
  exact ⟨.ref _, _, I5.laid (t' := s4.toks) (o := .lst (pickD xs l u k)) (fun b ob q => Heap.get?_push_of_some _ q) (Nat.le_refl _) ⟨hw, _, 0, rv, Heap.get?_push_size _ rfl⟩, rfl, q4 _ (I5.hok.fresh (Nat.le_refl _))⟩
end
section
variable {X : Cx} {ρ : REnv} {μ μ1 μ2 μ3 μ4 : Sto} {a c : Expr} {lo hi : Option Expr} {l h : Option Int} {k : Int} {ds : List PyData} {p2 pos : Pos} {n0 : Nat}
theorem EV.slL3 (ha : EV X a ρ μ (Ls ds) μ1) (hl : PartV X lo ρ μ1 l μ2) (hh : PartV X hi ρ μ2 h μ3) (hk : PartV X (some c) ρ μ3 (some k) μ4) (h0 : k ≠ 0) (hz : (pickD ds l h (some k)).length ≤ sizeLine) (hops : ∀ (v w : Value), subscripted (.Slice lo hi (some c) p2) false v w = operate [v, w] (getItem v w) := by intro _ _; with_unfolding_all rfl) : EV X (.Subscript a (.Slice lo hi (some c) p2) pos) ρ μ (Ls (pickD ds l h (some k))) μ4 := by
  intro w σ H m s Q q
  refine ⟨_, pe_slice3 (p_ex (e := a)) (p_ox (e := lo)) (p_ox (e := hi)) (p_ox (e := some c)) hops, ?_⟩
  refine ha w σ H m s _ fun v H1 m1 f1 h1 => ?_
  refine hl w σ H1 m1 (s.fr f1) _ fun H2 m2 f2 => ?_
  refine hh w σ H2 m2 ((s.fr f1).fr f2) _ fun H3 m3 f3 => ?_
  refine hk w σ H3 m3 (((s.fr f1).fr f2).fr f3) _ fun H4 m4 f4 => ?_
  have h4 := ((h1.fr f2).fr f3).fr f4
  cases h4 with
  | lst hb hd =>
    refine ⟨fun z => h0 (Option.some.inj z), _, _, rfl, SqL.of (dl_some hb).2, ?_, new_lst m4 (dq_pick hd l h (some k)) fun v H5 m5 f5 h5 => q v H5 m5 ((((f1.trans f2).trans f3).trans f4).trans f5) h5⟩
    rw [dqAll_len (dq_pick hd l h (some k))]
    exact hz
end
end J
namespace GL
open PySem J L2 M
structure Gg (g : Str × Int) : Prop where
  k : (g.1 = "all" ∧ g.2 = 0) ∨ (g.1 = "before" ∧ g.2 = 0) ∨ (g.1 = "last" ∧ 1 ≤ g.2 ∧ g.2 ≤ 4)
end GL
namespace J
open PySem PySem.Spec
open PyProof.Rows L2
section
variable {w : World} {P : Program} {K : PySem.W.Frag} {base : Heap} {mg : Str → Option Value} {C : Addr}
theorem scLo : FnScope ["goal"] ["goal"] (defScope sLastOf) := ⟨rfl, rfl, rfl, by decide +kernel, rfl, by decide +kernel, by decide +kernel⟩
noncomputable def lastG (g : Str × Int) : PyData := if g.1 = "last" then .int g.2 else .none
noncomputable def cnLo : Con := fun rs μ r μ' => ∃ g : Str × Int, rs = [Ss (G.aim g)] ∧ GL.Gg g ∧ r = .dat (lastG g) ∧ μ' = μ
theorem last_fit1 : ∀ i : _root_.Fin 5, (G.aim ("last", (i.val : Int))).length ≤ 100 ∧ atI (G.aim ("last", (i.val : Int))).cps.toList (-1) = some (48 + i.val) ∧ PySem.intText? (⟨#[48 + i.val]⟩ : Str) = some (i.val : Int) ∧ inD (.str (G.aim ("last", (i.val : Int)))) [.str "all", .str "before"] = false := by decide +kernel
theorem cLo (T : Bt mg) (D : Df K mg "last_of" sLastOf) : Cal P w K mg base "last_of" 1 ["goal"] cnLo := by
  refine D.cal scLo (fun _ _ _ _ _ _ us hl => len1 us hl fun _ => rfl) (by decide) (fun rs μ r μ' h => by obtain ⟨_, _, _, _, rfl⟩ := h; rfl) fun f cdv A outer s H E hr rs μ r μ' hC => ?_
  obtain ⟨⟨g1, g2⟩, rfl, hg, rfl, rfl⟩ := hC
  rcases hg.k with ⟨h1, h2⟩ | ⟨h1, h2⟩ | ⟨h1, h2, h3⟩ <;> dsimp only at h1 h2 <;> subst h1
  · exact ST.ifYes (TV.eq (tInT (d := .str "all") (nm 0) (EV.tup (ds := [.str "all", .str "before"]) (AV.cons EV.str (AV.cons EV.str AV.nil))) rfl rfl) (by decide +kernel)) rfl (ST.retP EV.non rfl)
  · exact ST.ifYes (TV.eq (tInT (d := .str "before") (nm 0) (EV.tup (ds := [.str "all", .str "before"]) (AV.cons EV.str (AV.cons EV.str AV.nil))) rfl rfl) (by decide +kernel)) rfl (ST.retP EV.non rfl)
  · dsimp only at h3
    obtain ⟨k, hk⟩ : ∃ k : _root_.Fin 5, g2 = (k.val : Int) := ⟨⟨g2.toNat, by omega⟩, by show g2 = ((g2.toNat : Nat) : Int); omega⟩
    subst hk
    obtain ⟨e1, e2, e3, e4⟩ := last_fit1 k
    refine ST.ifNo (TV.eq (tInT (nm 0) (EV.tup (ds := [.str "all", .str "before"]) (AV.cons EV.str (AV.cons EV.str AV.nil))) rfl rfl) e4) rfl ?_
    exact ST.retP (bIntS T (ixS (nm 0) (EV.neg EV.int) (sz (by omega)) e2) e3 (by show 1 ≤ 640; decide)) rfl
end
end J
namespace J
open PySem PySem.Spec
open PyProof.Rows L2
section
variable {w : World} {P : Program} {K : PySem.W.Frag} {base : Heap} {mg : Str → Option Value} {C : Addr}
theorem scCkB : FnScope ["book"] ["book"] (defScope sCheckBook) := ⟨rfl, rfl, rfl, by decide +kernel, rfl, by decide +kernel, by decide +kernel⟩
noncomputable def cnCkB (C : Addr) : Con := fun rs μ r μ' => ∃ fs, rs = [.obj C fs] ∧ True ∧ r = Nn ∧ μ' = μ
theorem cCkB (ic : C8.InsC K C) (T : Bt mg) (at_ : mg "Book" = some (.ref C)) (D : Df K mg "check_book" sCheckBook) : Cal P w K mg base "check_book" 1 ["book"] (cnCkB C) := by
  refine D.calN scCkB (fun _ _ _ _ _ _ us hl => len1 us hl fun _ => rfl) (by decide) (fun rs μ r μ' h => by obtain ⟨_, _, _, _, rfl⟩ := h; rfl) fun f cdv A outer s H E hr rs μ r μ' hC => ?_
  obtain ⟨fs, rfl, _, rfl, rfl⟩ := hC
  exact ST.ifNo (TV.not (TV.val (EV.isC ic T.isinstance at_ (nm 0)))) rfl (ST.nil ⟨rfl, [], by simp⟩)
theorem scPlO : FnScope ["book", "name"] ["book", "name"] (defScope sPlanOf) := ⟨rfl, rfl, rfl, by decide +kernel, rfl, by decide +kernel, by decide +kernel⟩
theorem cPlO (B : Kl K C) (M1 : Mth P w K mg base C "plan" 4 ["self", "name"] (cnPlan C)) (C1 : Cal P w K mg base "check_book" 1 ["book"] (cnCkB C)) (D : Df K mg "plan_of" sPlanOf) : Cal P w K mg base "plan_of" 5 ["book", "name"] (cnPlan C) := by
  refine D.cal scPlO (fun _ _ _ _ _ _ us hl => len2 us hl fun _ _ => rfl) (by decide) (fun rs μ r μ' h => by obtain ⟨_, _, _, _, _, _, _, rfl⟩ := h; rfl) fun f cdv A outer s H E hr rs μ r μ' hC => ?_
  obtain ⟨ps, n, j, p, rfl, ⟨G, hj, hp⟩, rfl, rfl⟩ := hC
  refine ST.expr (EV.call C1 (hr.mono (by decide)) (AV.cons (nm 0) AV.nil) ⟨_, rfl, trivial, rfl, rfl⟩) ?_
  exact ST.retP (EV.meth (nm 0) B.cl M1 hr rfl (AV.cons (nm 1) AV.nil) ⟨ps, n, j, p, rfl, ⟨G, hj, hp⟩, rfl, rfl⟩) rfl
end
end J
namespace J
open PySem PySem.Spec
open PyProof.Rows L2
noncomputable def FrX (w : Wd) (x : Addr) (H H1 : Hp) : Prop := ∀ b o, b ≠ x → H b = some o → b ∉ w.α → Nt o → H1 b = some o
noncomputable def InO (H : Hp) (w : Wd) (x dx C : Addr) (fs : List (Str × PyData)) : Prop := ∃ ws, H x = some (.ins C dx ws) ∧ ws.map (·.1) = fs.map (·.1) ∧ DqAll (dl H w.all) (ws.map (·.2)) (fs.map (·.2))
theorem putF_new {f : Str} {v : V} : ∀ {ws : List (Str × V)}, f ∉ ws.map (·.1) → putF f v ws = ws ++ [(f, v)]
  | [], _ => rfl
  | (g, y) :: ws, h => by
    have h1 : ¬ g = f := fun z => h (by rw [z]; exact List.mem_cons_self)
    show (if g = f then _ else _) = _
    rw [if_neg h1, putF_new fun z => h (List.mem_cons_of_mem _ z)]
    rfl
noncomputable def SI (X : Cx) (C : Addr) (sts : List Stmt) (ρ : REnv) (μ : Sto) (fs fsF : List (Str × PyData)) : Prop :=
  ∀ w0 x dx σ H (D : Ends), Mem X.K H (wk' w0 x) μ → Sl X.K H (wk' w0 x) σ ρ → σ[0]? = some (some (.ref x)) → InO H (wk' w0 x) x dx C fs →
    (∀ σ1 H1, Mem X.K H1 (wk' w0 x) μ → FrX w0 x H H1 → InO H1 (wk' w0 x) x dx C fsF → D.nx σ1 H1) → SX X sts D σ H
section
variable {X : Cx} {ρ : REnv} {μ : Sto} {e : Expr} {es : List Expr} {rest : List Stmt} {pos p0 p1 p2 p' : Pos} {r : Ent} {rs : List Ent} {d : PyData} {x f sn : Str} {C : Addr} {fs fsF : List (Str × PyData)}
theorem InO.fr {H H1 : Hp} {w : Wd} {x dx C : Addr} {fs : List (Str × PyData)} {μ : Sto} {K : PySem.W.Frag} (h : InO H (wk' w x) x dx C fs) (m : Mem K H (wk' w x) μ) (f : Fr (wk' w x).α H H1) : InO H1 (wk' w x) x dx C fs := by
  obtain ⟨ws, h1, h2, h3⟩ := h
  exact ⟨ws, f x _ h1 (m.out x List.mem_cons_self) (fun q z => by cases z), h2, dqAll_mono (Fr.all (w := wk' w x) f) _ _ h3⟩
theorem FrX.pre {w : Wd} {x : Addr} {H H1 H2 : Hp} (f : Fr w.α H H1) (g : FrX w x H1 H2) : FrX w x H H2 := fun b o n e nb nt => g b o n (f b o e nb nt) nb nt
theorem SI.nil : SI X C [] ρ μ fsF fsF := fun w0 x dx σ H D m s hs hI q => ⟨_, pss_nil, q σ H m (fun b o _ e _ _ => e) hI⟩
theorem SI.expr (h : EV X e ρ μ r μ) (hr : SI X C rest ρ μ fs fsF) (hs : swapsWith e none pos.line X.env = pure false := by rfl) : SI X C (.Expr e pos :: rest) ρ μ fs fsF := by
  intro w0 x dx σ H D m s hs0 hI q
  refine ⟨_, pss_cons (ps_expr (p_ex (e := e)) hs) p_sx, ?_⟩
  refine h (wk' w0 x) σ H m s _ fun v H1 m1 f1 hv => ?_
  exact hr w0 x dx σ H1 D m1 (s.fr f1) hs0 (hI.fr m f1) fun σ1 H2 m2 f2 i2 => q σ1 H2 m2 (f2.pre f1) i2
theorem SI.set {i : Nat} (h : EV X e ρ μ r μ) (hi0 : i ≠ 0) (hN : X.N.Nodup) (hi : X.N[i]? = some x) (hx : Loc X.env.scope x) (hr : SI X C rest (ρ.set i (some r)) μ fs fsF) (hs : swapsWith e (some (.Name x p')) pos.line X.env = pure false := by rfl)
    (hf : X.fn x = true ∨ X.env.scope.names.lookup x = some .local := by first | exact .inl rfl | exact .inr rfl | assumption) : SI X C (.Assign [.Name x p'] e pos :: rest) ρ μ fs fsF := by
  intro w0 x dx σ H D m s hs0 hI q
  refine ⟨_, pss_cons (ps_set hN hi hx (p_ex (e := e)) hs hf) p_sx, ?_⟩
  refine h (wk' w0 x) σ H m s _ fun v H1 m1 f1 h1 => ?_
  exact hr w0 x dx _ H1 D m1 ((s.fr f1).set h1) (by rw [List.getElem?_set_ne hi0]; exact hs0) (hI.fr m f1) fun σ1 H2 m2 f2 i2 => q σ1 H2 m2 (f2.pre f1) i2
theorem SI.fld (h : EV X e ρ μ (.dat d) μ) (hself : PE X (.Name sn p1) (tVar 0)) (cl : Cls X.K C) (na : NoAttr X.K C f) (hf : f ∉ fs.map (·.1)) (hl : fs.length < 1000) (hr : SI X C rest ρ μ (fs ++ [(f, d)]) fsF) (hs : swapsWith e (some (.Attribute (.Name sn p1) f p2)) pos.line X.env = pure false := by rfl) : SI X C (.Assign [.Attribute (.Name sn p1) f p2] e pos :: rest) ρ μ fs fsF := by
  intro w0 x dx σ H D m s hs0 hI q
  refine ⟨_, pss_cons (ps_fld hself (p_ex (e := e)) hs) p_sx, ?_⟩
  refine h (wk' w0 x) σ H m s _ fun v H1 m1 f1 h1 => ?_
  obtain ⟨ws, i1, i2, i3⟩ := hI.fr m f1
  have hwl : ws.length = fs.length := by
    have := congrArg List.length i2
    rwa [List.length_map, List.length_map] at this
  refine ⟨.ref x, hs0, x, C, dx, ws, rfl, i1, cl, na, by omega, ?_⟩
  have g : Same (dl H1 (wk' w0 x).all) (dl (upd H1 x (.ins C dx (putF f v ws))) (wk' w0 x).all) := same_outs
  refine hr w0 x dx σ _ D m1.outs ((s.fr f1).same g) hs0 ⟨ws ++ [(f, v)], ?_, by rw [List.map_append, List.map_append, i2]; rfl, ?_⟩ fun σ1 H2 m2 f2 i4 => q σ1 H2 m2 (fun b o n eb nb nt => f2 b o n (by rw [upd_ne n]; exact f1 b o eb nb nt) nb nt) i4
  · rw [upd_same, putF_new (by rw [i2]; exact hf)]
  · rw [List.map_append, List.map_append]
    exact dqAll_append (dqAll_mono g _ _ i3) (.cons (dq_mono g _ _ h1) .nil)
end
noncomputable def spInitF (K : PySem.W.Frag) (C : Addr) (con : List Ent → Sto → List (Str × PyData) → Prop) : Sp := fun vs H Q _ => ∃ x dx us w0 μ rs fs, vs = .ref x :: us ∧ Mem K H (wk' w0 x) μ ∧ Vas K H (wk' w0 x) us rs ∧ InO H (wk' w0 x) x dx C [] ∧ con rs μ fs ∧
  ∀ H1, Mem K H1 (wk' w0 x) μ → FrX w0 x H H1 → InO H1 (wk' w0 x) x dx C fs → Q .non H1
structure MakF (P : Program) (w : World) (K : PySem.W.Frag) (mg : Str → Option Value) (base : Heap) (n : Str) (C : Addr) (k : Nat) (ps : List Str) (con : List Ent → Sto → List (Str × PyData) → Prop) : Prop where
  ex : ∃ g fd, FnOk P w K mg base CX0 k g fd ps (spInitF K C con) ∧ Mk K C g ∧ mg n = some (.ref C) ∧ Binds K fd ps []
section
variable {w : World} {P : Program} {K : PySem.W.Frag} {base : Heap} {mg : Str → Option Value}
theorem okInitF {x qual : Str} {st : Stmt} {f : Addr} {fd : FuncData} {N ps : List Str} {k : Nat} {C : Addr} {con : List Ent → Sto → List (Str × PyData) → Prop} (F : Fun K x qual st f fd) (Sc : FnScope N ps (defScope st)) (hN : ps.length ≤ N.length) (hlen : ∀ rs μ fs, con rs μ fs → rs.length + 1 = ps.length)
    (body : ∀ (cdv : Value) (A : Around) (outer : List Env) (s : Shared) (H : Hp) (E : XK), Room k (A.deeper (envOfC qual (defScope st) s.heap.objs.size f cdv)) → ∀ rs μ fs, con rs μ fs →
      SI (cxOf CX0 P w K mg base N qual (defScope st) f cdv A outer s H E).nox C (defBody st) (none :: (rs.map some ++ List.replicate (N.length - (rs.length + 1)) none)) μ [] fs) : FnOk P w K mg base CX0 (k + 1) f fd ps (spInitF K C con) := by
  refine F.ok Sc (fun vs H Q E h => ?_) (fun cdv A outer s H vs Q E hr h => ?_)
  · obtain ⟨x, dx, us, w0, μ, rs, fs, rfl, _, hv, _, hC, _⟩ := h
    rw [List.length_cons, hv.1]
    exact hlen rs μ fs hC
  · obtain ⟨x, dx, us, w0, μ, rs, fs, rfl, m, hv, hI, hC, q⟩ := h
    have hl := hlen rs μ fs hC
    have sl0 := sl_start (N := N) (Vas.cons (r := .raw (.ref x)) (K := K) (H := H) (w := wk' w0 x) (v := .ref x) rfl hv) (by rw [List.length_cons]; omega)
    have sl : Sl K H (wk' w0 x) (L2.start N (.ref x :: us)) (none :: (rs.map some ++ List.replicate (N.length - (rs.length + 1)) none)) := by
      refine ⟨sl0.len.trans (by simp), fun i r e => ?_⟩
      cases i with
      | zero => simp at e
      | succ i => exact sl0.at_ (i + 1) r e
    obtain ⟨v0, hv0, e0⟩ := sl0.at_ 0 (.raw (.ref x)) rfl
    cases e0
    exact body cdv A outer s H E hr rs μ fs hC w0 x dx _ H _ m sl hv0 hI fun σ1 H1 m1 f1 i1 => q H1 m1 f1 i1
end
section
variable {X : Cx} {ρ : REnv} {μ μ1 : Sto} {e : Expr} {es : List Expr} {pos p : Pos} {rs : List Ent} {n : Str} {C : Addr} {fs : List (Str × PyData)} {k : Nat} {ps : List Str} {con : List Ent → Sto → List (Str × PyData) → Prop}
theorem EV.makeF (M : MakF X.prog X.w X.K X.mg X.base n C k ps con) (hr : Room (k + 1) X.A) (ha : AV X (e :: es) ρ μ rs μ1) (hC : con rs μ1 fs) (hg : Gl X n := by rfl) (hs : starEach (e :: es) X.env = (false, eval e X.env) :: starEach es X.env := by rfl) (hdb : (n == ("__debug__" : Str)) = false := by decide)
    (hpl : (backTo pos (starEach es X.env)).any (·.1) = false := by rfl) : EV X (.Call (.Name n p) (e :: es) [] pos) ρ μ (.obj C fs) μ1 := by
  intro w σ H m s Q q
  obtain ⟨g, fd, F, mk, hm, bi⟩ := M.ex
  refine ⟨_, pe_make (E := E0) mk F hr hg hm bi .nil pass0 (p_ax (e := e :: es)) hdb hs hpl, ?_⟩
  refine ha w σ H m s _ fun vs H1 m1 f1 h1 => ?_
  intro x dx hx hdx hne
  have hS : Same H1 (upd (upd H1 dx (.own x)) x (.ins C dx [])) := fun b u eb => by
    rw [upd_ne (ne_of_none eb hx), upd_ne (ne_of_none eb hdx)]
    exact eb
  have g := keep_out (K := X.K) (w := w) hx (Fr.of_same hS) ⟨_, upd_same⟩
  refine ⟨x, dx, vs, w, μ1, rs, fs, by rw [List.append_nil], make_mem m1 hx hdx hne, ⟨h1.1, fun i v r a b => ?_⟩, ⟨[], upd_same, rfl, .nil⟩, hC, fun H2 m2 f2 i2 => ⟨rfl, ?_⟩⟩
  · have hv := h1.2 i v r a b
    cases r with
    | dat d => exact dq_mono g _ _ hv
    | ptr k => exact hv
    | obj C2 fs2 =>
      obtain ⟨y, dy, ws, a1, a2, a3, a4⟩ := hv
      exact ⟨y, dy, ws, a1, g _ _ a2, a3, dqAll_mono g _ _ a4⟩
    | scr ns =>
      obtain ⟨y, a1, a2⟩ := hv
      refine ⟨y, a1, ?_⟩
      rcases a2 with (a2 | ⟨o, a2⟩) | a2
      · exact .inl (.inl (g _ _ a2))
      · exact .inl (.inr ⟨o, g _ _ a2⟩)
      · exact .inr a2
    | raw u => exact hv
    | exc a d fs2 =>
      obtain ⟨a1, ws, a2, a3, a4⟩ := hv
      exact ⟨a1, ws, g _ _ a2, a3, dqAll_mono g _ _ a4⟩
  · obtain ⟨ws, e2, n2, d2⟩ := i2
    have hxa : x ∉ w.all := m1.freshA hx
    refine q (.ref x) H2 m2.unkeep (f1.trans fun b o eb nb nt => f2 b o (ne_of_none eb hx) (hS b o eb) nb nt) ⟨x, dx, ws, rfl, dl_of hxa e2, n2, dqAll_mono (dl_sub fun b hb => all_wk'.mpr (.inr hb)) _ _ d2⟩
end
end J
namespace N
open PySem J L2
theorem split_join {sep : Str} {c : Nat} {r : List Nat} (hs : TL.tl sep = c :: r) (h2 : (TL.tl sep).all (· < 256) = true) {ys : List Str} (hne : ys ≠ []) (h : ∀ y ∈ ys, c ∉ TL.tl y) : Txt.split (Txt.join sep ys) sep = ys := by
  have e1 : sep = SX.S (TL.tl sep) := (M.S_of_tl sep).symm
  have e2 : ys = (ys.map TL.tl).map SX.S := by
    rw [List.map_map]
    have : ys.map (SX.S ∘ TL.tl) = ys.map id := List.map_congr_left fun y _ => M.S_of_tl y
    rw [this, List.map_id]
  have e3 : Txt.join sep ys = SX.S (TL.joinL (TL.tl sep) (ys.map TL.tl)) := by
    have := SX.join_S (TL.tl sep) (ys.map TL.tl)
    rwa [← e2, ← e1] at this
  have e4 : TL.tl (SX.S (TL.joinL (TL.tl sep) (ys.map TL.tl))) = TL.joinL (TL.tl sep) (ys.map TL.tl) := rfl
  rw [e3, M.split_list _ sep (by rw [hs]; exact List.cons_ne_nil _ _) h2, e4, hs, SX.spl_join (by simpa using hne) (fun p hp => by
    obtain ⟨y, hy, rfl⟩ := List.mem_map.mp hp
    exact h y hy)]
  exact e2.symm
noncomputable def sp : Str := " "
theorem sp_tl : TL.tl sp = [32] := by decide +kernel
theorem sp_256 : (TL.tl sp).all (· < 256) = true := by decide +kernel
theorem name_free {s : Str} (h : M.nameOk s = true) : ∀ c ∈ TL.tl s, 48 ≤ c ∧ c ≤ 122 ∧ c ≠ 59 := by
  intro c hc
  have h1 := (M.name_signs h).2.2 c hc
  have h2 : c ∈ G.signs := of_decide_eq_true h1
  have h3 : ∀ c ∈ G.signs, 48 ≤ c ∧ c ≤ 122 ∧ c ≠ 59 := by decide +kernel
  exact h3 c h2
noncomputable def Plain (s : Str) : Prop := 32 ∉ TL.tl s ∧ 59 ∉ TL.tl s
theorem plain_dig {i : Int} (h0 : 0 ≤ i) (h9 : i ≤ 9) : Plain (M.strI i) := by
  have h : ∀ k : Fin 10, 32 ∉ TL.tl (M.strI (k.val : Int)) ∧ 59 ∉ TL.tl (M.strI (k.val : Int)) := by decide +kernel
  have := h ⟨i.toNat, by omega⟩
  rwa [show ((i.toNat : Nat) : Int) = i by omega] at this
theorem plain_name {s : Str} (h : M.nameOk s = true) : Plain s := ⟨fun z => by have := name_free h _ z; omega, fun z => by have := name_free h _ z; omega⟩
theorem joinL_mem (S : List Nat) (c : Nat) : ∀ (ps : List (List Nat)), c ∈ TL.joinL S ps → c ∈ S ∨ ∃ p ∈ ps, c ∈ p
  | [], h => by cases h
  | [p], h => .inr ⟨p, by simp, h⟩
  | p :: q :: ps, h => by
    have h' : c ∈ p ++ (S ++ TL.joinL S (q :: ps)) := h
    rcases List.mem_append.mp h' with h2 | h1
    · exact .inr ⟨p, by simp, h2⟩
    rcases List.mem_append.mp h1 with h2 | h1
    · exact .inl h2
    · rcases joinL_mem S c (q :: ps) h1 with h2 | ⟨z, hz, h2⟩
      · exact .inl h2
      · exact .inr ⟨z, List.mem_cons_of_mem _ hz, h2⟩
theorem join_mem {sep : Str} {ys : List Str} {c : Nat} (h : c ∈ TL.tl (Txt.join sep ys)) : c ∈ TL.tl sep ∨ ∃ y ∈ ys, c ∈ TL.tl y := by
  have e2 : ys = (ys.map TL.tl).map SX.S := by
    rw [List.map_map]
    have : ys.map (SX.S ∘ TL.tl) = ys.map id := List.map_congr_left fun y _ => M.S_of_tl y
    rw [this, List.map_id]
  have e3 : Txt.join sep ys = SX.S (TL.joinL (TL.tl sep) (ys.map TL.tl)) := by
    have := SX.join_S (TL.tl sep) (ys.map TL.tl)
    rwa [← e2, M.S_of_tl] at this
  rw [e3] at h
  rcases joinL_mem _ _ _ h with h1 | ⟨p, hp, h1⟩
  · exact .inl h1
  · obtain ⟨y, hy, rfl⟩ := List.mem_map.mp hp
    exact .inr ⟨y, hy, h1⟩
theorem dig_in {i lo hi : Int} (h0 : 0 ≤ lo) (h1 : lo ≤ i) (h2 : i ≤ hi) (h9 : hi ≤ 9) : M.readDigit (M.strI i) lo hi = .int i := by
  obtain ⟨n, rfl⟩ : ∃ n : Nat, i = (n : Int) := ⟨i.toNat, by omega⟩
  have e := (M.dig_text n (by omega)).2.1
  unfold M.readDigit
  rw [if_pos, e]
  unfold inD M.digList
  rw [List.any_eq_true]
  refine ⟨.str (M.strI n), List.mem_map.mpr ⟨.int n, ?_, rfl⟩, ?_⟩
  · unfold rngD
    refine List.mem_map.mpr ⟨((n : Int) - lo).toNat, List.mem_range.mpr (by omega), ?_⟩
    congr 1
    omega
  · show (M.strI n == M.strI n) = true
    exact beq_self_eq_true _
end N
namespace N
open PySem J L2
noncomputable def Lo (s : Str) : Prop := ∀ c ∈ TL.tl s, c < 256
theorem lo_ok {s : Str} (h : Lo s) : PyData.strOk s = true := by
  unfold PyData.strOk
  rw [← Array.all_toList, List.all_eq_true]
  intro c hc
  have := h c hc
  exact decide_eq_true (by omega)
theorem lo_join {sep : Str} {ys : List Str} (h1 : Lo sep) (h2 : ∀ y ∈ ys, Lo y) : Lo (Txt.join sep ys) := fun c hc => by
  rcases join_mem hc with z | ⟨y, hy, z⟩
  · exact h1 c z
  · exact h2 y hy c z
structure Sm (a b : Nat) (d : PyData) : Prop where
  lay : d.canLay0 = true
  shw : d.showable = true
  dep : d.depth ≤ a
  len : rlen d ≤ b
theorem Sm.str {s : Str} {n : Nat} (h : Lo s) (hl : s.length ≤ n) : Sm 0 (10 * n + 2) (.str s) := ⟨by simp [PyData.canLay0, lo_ok h], by simp [PyData.showable], by simp [PyData.depth], by simp only [rlen]; omega⟩
theorem Sm.int {i : Int} (h0 : 0 ≤ i) (h9 : i ≤ 9) : Sm 0 1 (.int i) := ⟨rfl, by simp only [PyData.showable]; exact decide_eq_true (log_dig ⟨h0, h9⟩), by simp [PyData.depth], by simp only [rlen]; exact Nat.le_of_eq (strI_len i h0 h9)⟩
theorem Sm.mono {a b a2 b2 : Nat} {d : PyData} (h : Sm a b d) (h1 : a ≤ a2) (h2 : b ≤ b2) : Sm a2 b2 d := ⟨h.lay, h.shw, Nat.le_trans h.dep h1, Nat.le_trans h.len h2⟩
theorem sm_all {a b : Nat} : ∀ {xs : List PyData}, (∀ x ∈ xs, Sm a b x) → PyData.canLayAll0 xs = true ∧ PyData.showableAll xs = true ∧ PyData.depthAll xs ≤ a ∧ rlenAll xs ≤ xs.length * (b + 2)
  | [], _ => ⟨rfl, rfl, by simp [PyData.depthAll], Nat.zero_le _⟩
  | x :: xs, h => by
    obtain ⟨h1, h2, h3, h4⟩ := sm_all (xs := xs) fun y hy => h y (List.mem_cons_of_mem _ hy)
    have g := h x List.mem_cons_self
    have g3 := g.dep
    have g4 := g.len
    refine ⟨by simp [PyData.canLayAll0, h1, g.lay], by simp [PyData.showableAll, h2, g.shw], by simp only [PyData.depthAll]; omega, ?_⟩
    simp only [rlenAll, List.length_cons]
    rw [Nat.add_mul]
    omega
theorem Sm.list {a b n : Nat} {xs : List PyData} (h : ∀ x ∈ xs, Sm a b x) (hn : xs.length ≤ n) : Sm (a + 1) (3 + n * (b + 2)) (.list xs) := by
  obtain ⟨h1, h2, h3, h4⟩ := sm_all h
  have : xs.length * (b + 2) ≤ n * (b + 2) := Nat.mul_le_mul_right _ hn
  exact ⟨by simp only [PyData.canLay0]; exact h1, by simp only [PyData.showable]; exact h2, by simp only [PyData.depth]; omega, by simp only [rlen]; omega⟩
theorem Sm.tuple {a b n : Nat} {xs : List PyData} (h : ∀ x ∈ xs, Sm a b x) (hn : xs.length ≤ n) : Sm (a + 1) (3 + n * (b + 2)) (.tuple xs) := by
  obtain ⟨h1, h2, h3, h4⟩ := sm_all h
  have : xs.length * (b + 2) ≤ n * (b + 2) := Nat.mul_le_mul_right _ hn
  exact ⟨by simp only [PyData.canLay0]; exact h1, by simp only [PyData.showable]; exact h2, by simp only [PyData.depth]; omega, by simp only [rlen]; omega⟩
theorem Sm.shwD {a b : Nat} {d : PyData} (h : Sm a b d) (h1 : isSeq d = true) (h2 : a ≤ 60) (h3 : b ≤ 10000000) : Shw d := ⟨h1, h.lay, h.shw, Nat.le_trans h.dep h2, Nat.le_trans h.len h3⟩
theorem Sm.sho {a b : Nat} {d : PyData} (h : Sm a b d) (h1 : isSeq d = true) (h2 : a ≤ 60) (h3 : b ≤ 10000000) : Sho d := (h.shwD h1 h2 h3).sho
end N
namespace M
open PySem J L2
noncomputable def swap (rs : List PyData) (i : Nat) (t : PyData) : List PyData := rs.take i ++ (t :: rs.drop (i + 1))
noncomputable def changePlan (p : PyData) (i : Nat) (t : Str) : PyData := match p with
  | .tuple [n, g, b, .tuple rs] => .tuple [n, g, b, .tuple (swap rs i (.str t))]
  | _ => .none
noncomputable def change (ps : List PyData) (j i : Nat) (t : Str) : List PyData := swap ps j (changePlan (ps.getD j .none) i t)
end M
namespace J
open PySem PySem.Spec
open PyProof.Rows L2
section
variable {X : Cx} {ρ : REnv} {μ μ1 μ2 : Sto} {a b e : Expr} {pos p : Pos} {ds : List PyData} {d : PyData} {n0 : Nat}
theorem EVF.lstT (T : X.mg "list" = none) (ha : EV X a ρ μ (Tp ds) μ1) (hg : Gl X "list" := by rfl) (hs : starEach [a] X.env = (false, eval a X.env) :: starEach [] X.env := by rfl) : EVF X (.Call (.Name "list" p) [a] [] pos) ρ μ ds μ1 := by
  intro w σ H m s Q q
  refine ⟨_, pe_callTy call_list_of hg T (by decide +kernel) (p_ax (e := [a])) (by decide) (by decide) hs (by rfl), ?_⟩
  refine (AV.cons ha AV.nil hs) w σ H m s _ fun vs H1 m1 f1 h1 => ?_
  obtain ⟨v, us, rfl, h2, h3⟩ := h1.inv
  rw [h3.inv0]
  cases h2 with
  | tup hb hd =>
    refine ⟨_, _, rfl, .inr (SqT.of (dl_some hb).2), fun l hl => ?_⟩
    exact q l _ _ (m1.keep hl) (f1.trans (Fr.of_same (Same.new hl))) (fresh_of m1 f1 (Nw.of hl)) upd_same (dqAll_mono (keep_out (K := X.K) hl (Fr.of_same (Same.new hl)) ⟨_, upd_same⟩) _ _ hd)
end
end J
namespace J
open PySem PySem.Spec
open PyProof.Rows L2
end J
namespace J
open PySem PySem.Spec
open PyProof.Rows L2
noncomputable def tMethS (C : Addr) (m : Str) (sp : Sp) (E : L2.St → XK) (ta : TE) (t : TA) : TE := fun σ H Q => ta σ H fun x H1 => ∃ a dx fs, x = .ref a ∧ H1 a = some (.ins C dx fs) ∧ fs.lookup m = none ∧ t σ H1 fun vs H2 => sp (x :: vs) H2 Q (E σ)
structure MthX (P : Program) (w : World) (K : PySem.W.Frag) (mg : Str → Option Value) (base : Heap) (C : Addr) (m : Str) (k : Nat) (ps : List Str) (c : ConX) : Prop where
  ex : ∃ f fd, FnOk P w K mg base (L2N.CX P w) k f fd ps (SpX K ps c) ∧ Meth K C m f ∧ Binds K fd ps []
end J
namespace J
open PySem PySem.Spec
open PyProof.Rows L2
end J
namespace J
open PySem PySem.Spec
open PyProof.Rows L2
section
variable {X : Cx} {W : WX} {ρ : REnv} {μ μ1 μ2 μ3 : Sto} {a b e o : Expr} {pos p apos kpos : Pos} {n m s : Str} {C : Addr} {k : Nat} {cn : ConX} {r : Ent} {oo : Res} {mc : Value} {pm g : Addr} {fd : FuncData} {sp : Sp} {i : Int}
theorem op_mulS : OpR X (binaryOp .Mult) (fun x y H Q => ∃ i j, x = .str i ∧ y = .int j ∧ MulOk i j ∧ Q (.str (Txt.mul i j)) H) := by
  intro pins s σ H x y v u Q I rx ry h
  obtain ⟨i, j, rfl, rfl, hz, q⟩ := h
  obtain ⟨t, rfl⟩ := rx
  obtain ⟨t', rfl⟩ := ry
  exact SB.mul hz fun t' tk => ⟨.str (Txt.mul i j), H, I.tok _, ⟨_, rfl⟩, q⟩
theorem r2_mulS {K : PySem.W.Frag} {μ : Sto} (h : MulOk s i) : R2V K (fun x y H Q => ∃ i j, x = V.str i ∧ y = V.int j ∧ MulOk i j ∧ Q (.str (Txt.mul i j)) H) (Ss s) (Ii i) (Ss (Txt.mul s i)) μ := r2v_pure fun w H v u m a b => by
  cases a
  cases b
  exact ⟨_, Dq.str _, fun Q q => ⟨s, i, rfl, rfl, h, q⟩⟩
theorem oMulS (ha : EV X a ρ μ (Ss s) μ1) (hb : EV X b ρ μ1 (Ii i) μ2) (h : MulOk s i) : EV X (.BinOp a .Mult b pos) ρ μ (Ss (Txt.mul s i)) μ2 := ha.op op_mulS hb (r2_mulS h)
end
section
variable {X : Cx} {W : WX} {ρ : REnv} {μ μ1 μ2 μ3 : Sto} {e o : Expr} {pos p apos kpos : Pos} {n m : Str} {C : Addr} {k : Nat} {cn : ConX} {r : Ent} {oo : Res} {mc : Value} {pm g : Addr} {fd : FuncData} {sp : Sp}
theorem ST.envK {sts : List Stmt} {nn : Nat} {ρ' : REnv} {Q : Out → Prop} (e : ρ = ρ') (h : ST X W nn sts ρ' μ Q) : ST X W nn sts ρ μ Q := e ▸ h
end
end J
namespace J
open PySem PySem.Spec
open PyProof.Rows L2
theorem LCV.filtMap {X : Cx} {ρ : REnv} {μ μ1 : Sto} {tg iter elt c : Expr} {scope : Scope} {own : List (Str × Nat)} {α : Type} {bs : List α} (h g : α → PyData) (t : α → Bool) (hi : IV X tg iter ρ μ (bs.map h) μ1)
    (hs : ∀ b ∈ bs, ∃ ρ', (∀ s H C cl fp, GV (blkX X scope s H C cl fp) tg (h b) (wipeE ρ (own.map (·.2))) ρ' (own.map (·.2))) ∧ (∀ s H C cl fp, TV (blkX X scope s H C cl fp) c ρ' μ1 (t b) μ1) ∧ (∀ s H C cl fp, EV (blkX X scope s H C cl fp) elt ρ' μ1 (.dat (g b)) μ1))
    (hl : bs.length ≤ 100000) : LCV X elt tg iter [c] scope own ρ μ ((bs.filter t).map g) μ1 := by
  refine LCV.mk hi (fun i acc ν => acc = ((bs.take i).filter t).map g ∧ ν = μ1) ⟨by simp, rfl⟩ (fun i d acc ν e hI => ?_) (fun acc ν hI => ?_) (by simpa using hl)
  · obtain ⟨rfl, rfl⟩ := hI
    rw [List.getElem?_map] at e
    cases q : bs[i]? with
    | none => rw [q] at e; cases e
    | some b =>
      rw [q] at e
      cases e
      obtain ⟨ρ', h1, h2, h3⟩ := hs b (List.mem_iff_getElem?.mpr ⟨i, q⟩)
      refine ⟨ρ', h1, t b, _, .inr ⟨c, rfl, h2⟩, ?_⟩
      have et : ((bs.take (i + 1)).filter t).map g = ((bs.take i).filter t).map g ++ (if t b = true then [g b] else []) := by
        rw [List.take_succ, q, List.filter_append, Option.toList_some, List.filter_cons, List.filter_nil, List.map_append]
        cases t b <;> rfl
      cases ht : t b with
      | true =>
        rw [ht, if_pos rfl] at et
        exact iteT ⟨g b, _, h3, et.symm, rfl⟩
      | false =>
        rw [ht, if_neg (by decide), List.append_nil] at et
        exact iteF ⟨et.symm, rfl⟩
  · rw [List.length_map, List.take_length] at hI
    exact hI
end J
namespace GR
open PySem J L2 M
structure Piece (s : Str) : Prop where
  len : 1 ≤ s.length ∧ s.length ≤ 4
  abc : ∀ c ∈ s.cps.toList, c ∈ M.letters.cps.toList
noncomputable def from_ (g : Str × Int) (k : Nat) : Nat := if g.1 = "last" then k + 1 - g.2.toNat else 0
noncomputable def to_ (g : Str × Int) (k : Nat) : Nat := if g.1 = "before" then k else k + 1
noncomputable def dueT (g : Str × Int) (ws : List Str) (k : Nat) : Str := Txt.join Str.empty ((ws.take (to_ g k)).drop (from_ g k))
end GR
namespace J
open PySem PySem.Spec
open PyProof.Rows L2
section
variable {w : World} {P : Program} {K : PySem.W.Frag} {base : Heap} {mg : Str → Option Value} {C : Addr}
theorem scPc : FnScope ["value", "sign"] ["value"] (defScope sIsPiece) := ⟨rfl, rfl, rfl, by decide +kernel, rfl, by decide +kernel, by decide +kernel⟩
noncomputable def cnPc : Con := fun rs μ r μ' => ∃ s : Str, rs = [Ss s] ∧ GR.Piece s ∧ r = Bb true ∧ μ' = μ
theorem cPc (T : Gf mg) (hP : ∃ t, mg "LONGEST_PIECE" = some (.int 4 t)) (D : Df K mg "is_piece" sIsPiece) : Cal P w K mg base "is_piece" 1 ["value"] cnPc := by
  refine D.cal scPc (fun _ _ _ _ _ _ us hl => len1 us hl fun _ => rfl) (by decide) (fun rs μ r μ' h => by obtain ⟨_, _, _, _, rfl⟩ := h; rfl) fun f cdv A outer s H E hr rs μ r μ' hC => ?_
  obtain ⟨s, rfl, ⟨⟨h1, h4⟩, habc⟩, rfl, rfl⟩ := hC
  have hsz : s.length = s.cps.size := rfl
  refine ST.ifNo (WV.tv (WV.orF (TV.not (TV.val (isI T.bt (nm 0) (kit_str _) (by decide +kernel) T.bt.str))) (WV.or1 (TV.not (TV.eq (tChainLe op_le op_le EV.int (bLenS T.bt (nm 0) (sz (by omega))) (gI hP)) (show _ = true by rw [decide_eq_true (show (1 : Int) ≤ (s.length : Int) by omega), decide_eq_true (show (s.length : Int) ≤ 4 by omega)]; rfl)))))) rfl ?_
  have hall : (s.cps.toList.map fun c => decide (c ∈ M.letters.cps.toList)).all id = true := by
    rw [List.all_map, List.all_eq_true]
    exact fun c hc => decide_eq_true (habc c hc)
  refine ST.retP (EV.eq (bAll (bs := s.cps.toList.map fun c => decide (c ∈ M.letters.cps.toList)) T.bt rfl (EV.eq (LCV.evf (own := [("sign", 1)]) (LCV.map (sgn1 fun c => decide (c ∈ M.letters.cps.toList)) (IV.str (nm 0)) (fun d hd => ?_) (by simp [strD]; omega)) rfl scPc.nd (blkOk_by (N := ["value", "sign"]) (sc := defScope sIsPiece) (by decide +kernel))).ev (congrArg Ls (sgn1_map _ _)))) (congrArg Bb hall)) rfl
  obtain ⟨c, _, rfl⟩ := List.mem_map.mp hd
  exact ⟨_, fun _ _ _ _ _ => GV.name (i := 1) scPc.nd rfl (Or.inl rfl) (by simp), fun _ _ _ _ _ => cInSign (nm 1) (gS T.letters)⟩
noncomputable abbrev nCp : List Str := ["pieces", "at", "piece"]
theorem scCp : FnScope nCp ["pieces"] (defScope sCheckPieces) := ⟨rfl, rfl, rfl, by decide +kernel, rfl, by decide +kernel, by decide +kernel⟩
noncomputable def cnCp : Con := fun rs μ r μ' => ∃ ws : List Str, rs = [Tp (ws.map .str)] ∧ (1 ≤ ws.length ∧ ws.length ≤ 12 ∧ ∀ s ∈ ws, GR.Piece s) ∧ r = Nn ∧ μ' = μ
theorem cCp (T : Bt mg) (hM : ∃ t, mg "MOST_PIECES" = some (.int 12 t)) (C1 : Cal P w K mg base "is_piece" 1 ["value"] cnPc) (D : Df K mg "check_pieces" sCheckPieces) : Cal P w K mg base "check_pieces" 2 ["pieces"] cnCp := by
  refine D.calN scCp (fun _ _ _ _ _ _ us hl => len1 us hl fun _ => rfl) (by decide) (fun rs μ r μ' h => by obtain ⟨_, _, _, _, rfl⟩ := h; rfl) fun f cdv A outer s H E hr rs μ r μ' hC => ?_
  obtain ⟨ws, rfl, ⟨h1, h12, hp⟩, rfl, rfl⟩ := hC
  refine ST.ifNo (WV.tv (WV.orF (TV.not (TV.val (isI T (nm 0) (kit_tuple _) (by decide +kernel) T.tuple))) (WV.or1 (TV.eq (tEq (d := .int (ws.length : Int)) (d2 := .int 0) (EV.eq (bLenT T (nm 0)) (by rw [List.length_map])) EV.int) (show decide ((ws.length : Int) = 0) = false from decide_eq_false (by omega)))))) rfl ?_
  refine ST.for_ (is := [1, 2]) (ds := enD 0 (ws.map .str)) (IV.enumT (nm 0) T.enumerate) (fun i ρ ν => (∃ b1 b2, ρ = [some (Tp (ws.map .str)), b1, b2]) ∧ μ' = ν) ⟨⟨_, _, rfl⟩, rfl⟩ (fun i d ρ ν hd hI => ?_) (fun ρ ν hI => ?_)
  · obtain ⟨⟨b1, b2, rfl⟩, rfl⟩ := hI
    obtain ⟨dv, hdv, rfl⟩ := enD_get hd
    obtain ⟨s, hs, rfl⟩ : ∃ s, ws[i]? = some s ∧ dv = .str s := by
      rw [List.getElem?_map] at hdv
      cases z : ws[i]? with
      | none => rw [z] at hdv; cases hdv
      | some s => rw [z] at hdv; cases hdv; exact ⟨s, rfl, rfl⟩
    have hil := (List.getElem?_eq_some_iff.mp hs).1
    refine ⟨_, GV.tup (GsV.cons (GV.name (i := 1) scCp.nd rfl (Or.inl rfl) (by simp)) (GsV.cons (GV.name (i := 2) scCp.nd rfl (Or.inl rfl) (by simp)) GsV.nil)), ?_⟩
    exact ST.ifNo (WV.tv (WV.orF (TV.eq (tEq (d := .int ((0 + i : Nat) : Int)) (d2 := .int 12) (nm 1) (gI hM)) (show decide (((0 + i : Nat) : Int) = 12) = false from decide_eq_false (by omega))) (WV.or1 (TV.not (TV.val (EV.call C1 hr (AV.cons (nm 2) AV.nil) ⟨s, rfl, hp s (List.mem_iff_getElem?.mpr ⟨i, hs⟩), rfl, rfl⟩)))))) rfl (ST.nil ⟨⟨_, _, rfl⟩, rfl⟩)
  · obtain ⟨⟨b1, b2, rfl⟩, rfl⟩ := hI
    exact ST.nil ⟨rfl, [], by simp⟩
theorem scGs : FnScope ["goal", "place", "many"] ["goal", "place"] (defScope sGoalSpan) := ⟨rfl, rfl, rfl, by decide +kernel, rfl, by decide +kernel, by decide +kernel⟩
noncomputable def cnGs : Con := fun rs μ r μ' => ∃ (g : Str × Int) (k : Nat), rs = [Ss (G.aim g), Ii (k : Int)] ∧ GL.Gg g ∧ r = Tp [.int (GR.from_ g k : Int), .int (GR.to_ g k : Int)] ∧ μ' = μ
theorem cGs (T : Bt mg) (C1 : Cal P w K mg base "last_of" 1 ["goal"] cnLo) (D : Df K mg "goal_span" sGoalSpan) : Cal P w K mg base "goal_span" 2 ["goal", "place"] cnGs := by
  refine D.cal scGs (fun _ _ _ _ _ _ us hl => len2 us hl fun _ _ => rfl) (by decide) (fun rs μ r μ' h => by obtain ⟨_, _, _, _, _, rfl⟩ := h; rfl) fun f cdv A outer s H E hr rs μ r μ' hC => ?_
  obtain ⟨g, k, rfl, hg, rfl, rfl⟩ := hC
  have hb0 : eqS (.str (G.aim g)) (.str "before") = decide (g.1 = "before") := by
    rcases hg.k with ⟨e, e2⟩ | ⟨e, e2⟩ | ⟨e, h2, h3⟩
    · obtain ⟨a, b⟩ := g
      dsimp only at e e2
      subst e
      subst e2
      decide +kernel
    · obtain ⟨a, b⟩ := g
      dsimp only at e e2
      subst e
      subst e2
      decide +kernel
    · obtain ⟨a, b⟩ := g
      dsimp only at e h2 h3
      subst e
      have : ∀ i : _root_.Fin 5, eqS (.str (G.aim ("last", (i.val : Int)))) (.str "before") = decide ((("last" : Str)) = "before") := by decide +kernel
      have h := this ⟨b.toNat, by omega⟩
      dsimp only at h
      rwa [show ((b.toNat : Nat) : Int) = b by omega] at h
  refine ST.set (i := 2) (EV.call C1 hr (AV.cons (nm 0) AV.nil) ⟨g, rfl, hg, rfl, rfl⟩) scGs.nd rfl (Or.inl rfl) ?_
  refine ST.envK (ρ' := [some (Ss (G.aim g)), some (Ii (k : Int)), some (.dat (lastG g))]) rfl ?_
  have e1 : (k : Int) + 1 = ((k + 1 : Nat) : Int) := by omega
  refine ST.ifR (k := decide (g.1 = "before")) (TV.eq (tEq (d := .str (G.aim g)) (d2 := .str "before") (nm 0) EV.str) hb0) (fun hb => ?_) (fun hb => ?_)
  · have h := of_decide_eq_true hb
    refine ST.retP (r' := Tp [.int (GR.from_ g k : Int), .int (GR.to_ g k : Int)]) (EV.eq (EV.tup (ds := [.int 0, .int (k : Int)]) (AV.cons EV.int (AV.cons (nm 1) AV.nil))) ?_) rfl
    unfold GR.from_ GR.to_
    rw [if_pos h, if_neg (fun z => by rw [h] at z; exact absurd z (by decide))]
    rfl
  · have h := of_decide_eq_false hb
    refine ST.ifR (k := isNone (lastG g)) (tIsN (nm 2)) (fun hn => ?_) (fun hn => ?_)
    · have hl : ¬ g.1 = "last" := fun z => by
        unfold lastG at hn
        rw [if_pos z] at hn
        cases hn
      refine ST.retP (r' := Tp [.int (GR.from_ g k : Int), .int (GR.to_ g k : Int)]) (EV.eq (EV.tup (ds := [.int 0, .int ((k : Int) + 1)]) (AV.cons EV.int (AV.cons (oAdd (nm 1) EV.int) AV.nil))) ?_) rfl
      unfold GR.from_ GR.to_
      rw [if_neg h, if_neg hl, e1]
      rfl
    · have hl : g.1 = "last" := by
        refine Decidable.byContradiction fun z => ?_
        unfold lastG at hn
        rw [if_neg z] at hn
        cases hn
      have hg2 : 1 ≤ g.2 ∧ g.2 ≤ 4 := by
        rcases hg.k with ⟨z, _⟩ | ⟨z, _⟩ | ⟨_, z⟩
        · rw [z] at hl; exact absurd hl (by decide)
        · rw [z] at hl; exact absurd hl (by decide)
        · exact z
      have hmx : (if (k : Int) + 1 - g.2 > 0 then (k : Int) + 1 - g.2 else 0) = ((k + 1 - g.2.toNat : Nat) : Int) := by
        split <;> omega
      have hlg : lastG g = .int g.2 := if_pos hl
      refine ST.retP (r' := Tp [.int (GR.from_ g k : Int), .int (GR.to_ g k : Int)]) (EV.eq (EV.tup (ds := [.int ((k + 1 - g.2.toNat : Nat) : Int), .int ((k : Int) + 1)]) (AV.cons (EV.eq (EV.callB (call_max2 rfl) T.max (by decide +kernel) (AV.cons EV.int (AV.cons (oSub (oAdd (nm 1) EV.int) (EV.eq (nm 2) (congrArg Ent.dat hlg))) AV.nil)) cv_max) (congrArg Ii hmx)) (AV.cons (oAdd (nm 1) EV.int) AV.nil))) ?_) rfl
      unfold GR.from_ GR.to_
      rw [if_neg h, if_pos hl, e1]
theorem cutSE {α : Type} (f : α → PyData) (ws : List α) (i k : Nat) (h : k ≤ ws.length) : cutD (ws.map f) (some (i : Int)) (some (k : Int)) = ((ws.take k).drop i).map f := by
  unfold cutD
  rw [HT.sIx_nat, HT.sIx_nat, List.length_map, List.map_drop, List.map_take, Nat.min_eq_left h, List.drop_take]
  rcases Nat.le_total i ws.length with hi | hi
  · rw [Nat.min_eq_left hi]
  · rw [Nat.min_eq_right hi, show k - ws.length = 0 by omega, show k - i = 0 by omega]
    simp
theorem EV.joinT {X : Cx} {ρ : REnv} {μ μ1 μ2 : Sto} {o e : Expr} {apos pos : Pos} {s : Str} {ys : List Str} (ho : EV X o ρ μ (Ss s) μ1) (he : EV X e ρ μ1 (Tp (ys.map .str)) μ2) (h1 : (ys.map (·.length)).sum + ys.length * s.length ≤ 16777216)
    (hs : starEach [e] X.env = [(false, eval e X.env)] := by rfl) (hbase : attributeBase o "join" X.env (eval o X.env) = eval o X.env := by rfl) (hline : (apos.endLine == pos.line) = true := by rfl) : EV X (.Call (.Attribute o "join" apos) [e] [] pos) ρ μ (Ss (Txt.join s ys)) μ2 :=
  EV.m1 F.slot_str_join F.type_str_join mt_join ho he (fun w H u m hu Q q => by
    cases hu with
    | tup ha hd =>
      rw [dqAll_strs' hd] at ha
      exact ⟨s, _, ys, rfl, rfl, .inr (SqT.of (dl_some ha).2), h1, q _ _ m .refl (Dq.str _)⟩) hs hbase hline
noncomputable abbrev nGtx : List Str := ["goal", "words", "spans", "place", "start", "end"]
theorem scGtx : FnScope nGtx ["goal", "words"] (defScope sGoalTexts) := ⟨rfl, rfl, rfl, by decide +kernel, rfl, by decide +kernel, by decide +kernel⟩
noncomputable def cnGtx : Con := fun rs μ r μ' => ∃ (g : Str × Int) (ws : List Str), rs = [Ss (G.aim g), Tp (ws.map .str)] ∧ (GL.Gg g ∧ ws.length ≤ 100 ∧ ∀ s ∈ ws, s.length ≤ 1000) ∧ r = Ls ((List.range ws.length).map fun k => .str (GR.dueT g ws k)) ∧ μ' = μ
theorem cGtx (T : Bt mg) (C1 : Cal P w K mg base "goal_span" 2 ["goal", "place"] cnGs) (D : Df K mg "goal_texts" sGoalTexts) : Cal P w K mg base "goal_texts" 3 ["goal", "words"] cnGtx := by
  refine D.cal scGtx (fun _ _ _ _ _ _ us hl => len2 us hl fun _ _ => rfl) (by decide) (fun rs μ r μ' h => by obtain ⟨_, _, _, _, _, rfl⟩ := h; rfl) fun f cdv A outer s H E hr rs μ r μ' hC => ?_
  obtain ⟨g, ws, rfl, ⟨hg, hl, hs⟩, rfl, rfl⟩ := hC
  refine ST.lc (i := 2) (own := [("place", 3)]) (LCV.mapT (bs := List.range ws.length) (fun (k : Nat) => PyData.int (0 + (k : Int))) (fun (k : Nat) => PyData.tuple [.int (GR.from_ g k : Int), .int (GR.to_ g k : Int)]) (IV.eqD (IV.rng1 (j := (ws.length : Int)) (EV.eq (bLenT T (nm 1)) (by rw [List.length_map])) (by omega) (by omega) T.range) (by rw [Int.toNat_natCast]; rfl)) (fun k hk => ⟨_, fun _ _ _ _ _ => GV.name (i := 3) scGtx.nd rfl (Or.inl rfl) (by simp), fun _ _ _ _ _ => EV.call C1 hr (AV.cons (nm 0) (AV.cons (nm 3) AV.nil)) ⟨g, k, by rw [Int.zero_add], hg, rfl, rfl⟩⟩) (by rw [List.length_range]; omega)) rfl scGtx.nd rfl rfl (blkOk_by (N := nGtx) (sc := defScope sGoalTexts) (by decide +kernel)) ?_ rfl
  refine ST.retP (LCV.evf (own := [("start", 4), ("end", 5)]) (LCV.mapT (bs := List.range ws.length) (fun (k : Nat) => PyData.tuple [.int (GR.from_ g k : Int), .int (GR.to_ g k : Int)]) (fun (k : Nat) => PyData.str (GR.dueT g ws k)) (IV.lst (nm 2)) (fun k hk => ⟨_, fun _ _ _ _ _ => GV.tup (GsV.cons (GV.name (i := 4) scGtx.nd rfl (Or.inl rfl) (by simp)) (GsV.cons (GV.name (i := 5) scGtx.nd rfl (Or.inl rfl) (by simp)) GsV.nil)), fun _ _ _ _ _ => ?_⟩) (by rw [List.length_range]; omega)) rfl scGtx.nd (blkOk_by (N := nGtx) (sc := defScope sGoalTexts) (by decide +kernel))).ev rfl
  have hft : GR.from_ g k ≤ GR.to_ g k := by
    unfold GR.from_ GR.to_
    rcases hg.k with ⟨z, _⟩ | ⟨z, _⟩ | ⟨z, h2, h3⟩ <;> rw [z]
    · rw [if_neg (by decide)]; omega
    · rw [if_neg (by decide)]; omega
    · rw [if_pos rfl, if_neg (by decide)]; omega
  have hkl := List.mem_range.mp hk
  have hto : GR.to_ g k ≤ ws.length := by
    unfold GR.to_
    split <;> omega
  unfold GR.dueT
  have hys : ∀ s ∈ (ws.take (GR.to_ g k)).drop (GR.from_ g k), s.length ≤ 1000 := fun s h => hs s (List.mem_of_mem_take (List.mem_of_mem_drop h))
  have hsum := sum_le (fun s : Str => s.length) 1000 _ hys
  have hyl : ((ws.take (GR.to_ g k)).drop (GR.from_ g k)).length ≤ 100 := by
    rw [List.length_drop, List.length_take]
    omega
  refine EV.joinT EV.str (EV.eq (EV.slT (nm 1) (PartV.some (nm 4)) (PartV.some (nm 5))) (congrArg Tp (cutSE PyData.str ws _ _ hto))) ?_
  have e0 : (Str.empty).length = 0 := rfl
  have : ((ws.take (GR.to_ g k)).drop (GR.from_ g k)).length * (Str.empty).length = 0 := by rw [e0, Nat.mul_zero]
  show _ + ((ws.take (GR.to_ g k)).drop (GR.from_ g k)).length * (Str.empty).length ≤ _
  omega
end
end J
namespace J
open PySem PySem.Spec
open PyProof.Rows L2
structure KlR (K : PySem.W.Frag) (R : Addr) : Prop where
  cl : Cls K R
  a1 : NoAttr K R "source"
  a2 : NoAttr K R "called"
  a3 : NoAttr K R "pieces"
  a4 : NoAttr K R "held"
  a5 : NoAttr K R "behind"
  a6 : NoAttr K R "told"
  a7 : NoAttr K R "whole"
noncomputable def rowD (C : Addr) (ps : List PyData) (n : Str) (pcs held : List PyData) (behind : Int) (told : List PyData) (whole : Int) : List (Str × PyData) := [("source", obD C [("kept", .tuple ps)]), ("called", .str n), ("pieces", .tuple pcs), ("held", .tuple held), ("behind", .int behind), ("told", .tuple told), ("whole", .int whole)]
noncomputable def dueL (g : Str × Int) (ws : List Str) : List PyData := (List.range ws.length).map fun k => .str (GR.dueT g ws k)
section
variable {w : World} {P : Program} {K : PySem.W.Frag} {base : Heap} {mg : Str → Option Value} {C R : Addr}
theorem scRowInit : FnScope ["self", "book", "name", "pieces", "plan"] ["self", "book", "name", "pieces"] (defScope sRowInit) := ⟨rfl, rfl, rfl, by decide +kernel, rfl, by decide +kernel, by decide +kernel⟩
noncomputable def conRow (C : Addr) (rs : List Ent) (_ : Sto) (fs : List (Str × PyData)) : Prop := ∃ (ps : List PyData) (n : Str) (j : Nat) (g : Str × Int) (b : Int) (tx : List PyData) (ws : List Str), rs = [bookE C ps, Ss n, Tp (ws.map .str)] ∧ (M.Good ps ∧ (ps.map M.nameOf)[j]? = some n ∧ ps[j]? = some (.tuple [.str n, .str (G.aim g), .int b, .tuple tx]) ∧ GL.Gg g) ∧ (1 ≤ ws.length ∧ ws.length ≤ 12 ∧ ∀ s ∈ ws, GR.Piece s) ∧
  fs = rowD C ps n (ws.map .str) (ws.map .str) 0 (dueL g ws) (if (ws.length : Int) ≤ b then 1 else (tx.length : Int))
theorem okRow {f : Addr} {fd : FuncData} (T : Bt mg) (F : Fun K "__init__" "Row.__init__" sRowInit f fd) (B : KlR K R) (C1 : Cal P w K mg base "plan_of" 5 ["book", "name"] (cnPlan C)) (C2 : Cal P w K mg base "check_pieces" 2 ["pieces"] cnCp) (C3 : Cal P w K mg base "goal_texts" 3 ["goal", "words"] cnGtx) : FnOk P w K mg base CX0 6 f fd ["self", "book", "name", "pieces"] (spInitF K R (conRow C)) := by
  refine okInitF F scRowInit (by decide) (fun rs μ fs h => by obtain ⟨_, _, _, _, _, _, _, rfl, _⟩ := h; rfl) fun cdv A outer s H E hr rs μ fs hC => ?_
  obtain ⟨ps, n, j, g, b, tx, ws, rfl, ⟨hG, hj, hp, hg⟩, ⟨h1, h12, hpc⟩, rfl⟩ := hC
  have a1 : ([PyData.str n, .str (G.aim g), .int b, .tuple tx])[1]? = some (.str (G.aim g)) := rfl
  have a2 : ([PyData.str n, .str (G.aim g), .int b, .tuple tx])[2]? = some (.int b) := rfl
  have a3 : ([PyData.str n, .str (G.aim g), .int b, .tuple tx])[3]? = some (.tuple tx) := rfl
  refine SI.set (i := 4) (EV.call C1 hr (AV.cons (nm 1) (AV.cons (nm 2) AV.nil)) ⟨ps, n, j, _, rfl, ⟨hG, hj, hp⟩, rfl, rfl⟩) (by decide) scRowInit.nd rfl (Or.inl rfl) ?_
  refine SI.expr (EV.call C2 (hr.mono (by decide)) (AV.cons (nm 3) AV.nil) ⟨ws, rfl, ⟨h1, h12, hpc⟩, rfl, rfl⟩) ?_
  refine SI.fld (EV.obd (nm 1)) (pv 0) B.cl B.a1 (show ("source" : Str) ∉ ([] : List Str) by decide) (show 0 < 1000 by decide) ?_
  refine SI.fld (nm 2) (pv 0) B.cl B.a2 (show ("called" : Str) ∉ (["source"] : List Str) by decide) (show 1 < 1000 by decide) ?_
  refine SI.fld (nm 3) (pv 0) B.cl B.a3 (show ("pieces" : Str) ∉ (["source", "called"] : List Str) by decide) (show 2 < 1000 by decide) ?_
  refine SI.fld (nm 3) (pv 0) B.cl B.a4 (show ("held" : Str) ∉ (["source", "called", "pieces"] : List Str) by decide) (show 3 < 1000 by decide) ?_
  refine SI.fld EV.int (pv 0) B.cl B.a5 (show ("behind" : Str) ∉ (["source", "called", "pieces", "held"] : List Str) by decide) (show 4 < 1000 by decide) ?_
  refine SI.fld (d := .tuple (dueL g ws)) (bTupL T (EV.call C3 (hr.mono (by decide)) (AV.cons (ixT (nm 4) EV.int (at_nat a1)) (AV.cons (nm 3) AV.nil)) ⟨g, ws, rfl, ⟨hg, by omega, fun s hs => by have := (hpc s hs).len; omega⟩, rfl, rfl⟩)) (pv 0) B.cl B.a6 (show ("told" : Str) ∉ (["source", "called", "pieces", "held", "behind"] : List Str) by decide) (show 5 < 1000 by decide) ?_
  refine SI.fld (d := .int (if (ws.length : Int) ≤ b then 1 else (tx.length : Int))) (EV.ifx (k := decide ((ws.length : Int) ≤ b)) (TV.eq (tLe (bLenT T (nm 3)) (ixT (nm 4) EV.int (at_nat a2))) (by rw [List.length_map])) (fun z => EV.eq EV.int (by rw [if_pos (of_decide_eq_true z)])) (fun z => EV.eq (bLenT T (ixT (nm 4) EV.int (at_nat a3))) (by rw [if_neg (of_decide_eq_false z)]))) (pv 0) B.cl B.a7 (show ("whole" : Str) ∉ (["source", "called", "pieces", "held", "behind", "told"] : List Str) by decide) (show 6 < 1000 by decide) ?_
  exact SI.nil
noncomputable def cnFld (R : Addr) (f : Str) : Con := fun rs μ r μ' => ∃ (fs : List (Str × PyData)) (d : PyData), rs = [.obj R fs] ∧ fs.lookup f = some d ∧ r = .dat d ∧ μ' = μ
end
end J
namespace N
open PySem J L2 PyProof.Rows
noncomputable def OkS (s : Str) : Prop := ∀ c ∈ s.cps.toList, c < 0x110000
theorem okS_iff {s : Str} : OkS s ↔ PyData.strOk s = true := by
  unfold PyData.strOk OkS
  rw [← Array.all_toList, List.all_eq_true]
  exact ⟨fun h c hc => decide_eq_true (h c hc), fun h c hc => of_decide_eq_true (h c hc)⟩
theorem char_lt (c : Char) : c.toNat < 0x110000 := by
  have h := c.valid
  have e : c.val.toNat = c.toNat := rfl
  rcases h with h | h
  · omega
  · omega
theorem okS_of (s : String) : OkS (s : Str) := fun c hc => by
  rw [signs_ofString] at hc
  obtain ⟨ch, _, rfl⟩ := List.mem_map.mp hc
  exact char_lt ch
theorem okS_app {a b : Str} (h : OkS a) (g : OkS b) : OkS (a ++ b) := fun c hc => (mem_cps_append.mp hc).elim (h c) (g c)
theorem okS_join {sep : Str} {ts : List Str} (h : OkS sep) (g : ∀ t ∈ ts, OkS t) : OkS (Str.join sep ts) := fun c hc => by
  rcases (mem_join sep c ts).mp hc with ⟨t, ht, z⟩ | ⟨_, z⟩
  · exact g t ht c z
  · exact h c z
theorem repr_fold (q : Nat) : ∀ (l : List Nat) (acc : Array Nat), (l.foldl (fun out c => out ++ (Builtin.Str.reprChar q c).toArray) acc).toList = acc.toList ++ l.flatMap (Builtin.Str.reprChar q)
  | [], acc => by simp
  | c :: r, acc => by
    rw [List.foldl_cons, repr_fold q r]
    simp
theorem repr_char {q c d : Nat} (hq : q < 0x110000) (hc : c < 0x110000) (h : d ∈ Builtin.Str.reprChar q c) : d < 0x110000 := by
  have hex : ∀ (w : Nat) (x : Nat), x ∈ (List.replicate w 48 ++ (Nat.toDigits 16 c).map Char.toNat) → x < 0x110000 := fun w x hx => by
    rcases List.mem_append.mp hx with z | z
    · have := List.eq_of_mem_replicate z
      omega
    · obtain ⟨ch, _, rfl⟩ := List.mem_map.mp z
      exact char_lt ch
  have two : ∀ x : Nat, x < 0x110000 → d ∈ [92, x] → d < 0x110000 := fun x hx hd => by
    rcases List.mem_cons.mp hd with rfl | hd
    · decide
    · rw [List.mem_singleton.mp hd]
      exact hx
  unfold Builtin.Str.reprChar at h
  dsimp only at h
  split at h
  · exact two c hc h
  · split at h
    · exact two 110 (by decide) h
    · split at h
      · exact two 114 (by decide) h
      · split at h
        · exact two 116 (by decide) h
        · split at h
          · rw [List.mem_singleton.mp h]
            exact hc
          · split at h
            · rcases List.mem_append.mp h with z | z
              · exact two 120 (by decide) z
              · exact hex _ _ z
            · split at h
              · rcases List.mem_append.mp h with z | z
                · exact two 117 (by decide) z
                · exact hex _ _ z
              · rcases List.mem_append.mp h with z | z
                · exact two 85 (by decide) z
                · exact hex _ _ z
theorem quote_lt (x : Str) : reprQuote x < 0x110000 := by
  unfold reprQuote
  split <;> decide
theorem okS_repr {x : Str} (h : OkS x) : OkS (reprText x) := by
  intro c hc
  unfold reprText at hc
  have hq := quote_lt x
  simp only [Array.toList_push] at hc
  rw [← Array.foldl_toList, repr_fold] at hc
  simp only [List.mem_append, List.mem_cons, List.not_mem_nil, or_false, List.mem_flatMap] at hc
  rcases hc with (rfl | ⟨d, hd, hm⟩) | rfl
  · exact hq
  · exact repr_char hq (h d hd) hm
  · exact hq
mutual
theorem okS_shown : ∀ d : PyData, d.canLay0 = true → OkS d.shown
  | .none, _ => by rw [PyData.shown_none]; exact okS_of _
  | .bool b, _ => by rw [PyData.shown_bool]; cases b <;> exact okS_of _
  | .int i, _ => by rw [PyData.shown_int]; exact okS_of _
  | .str x, h => by
    rw [PyData.shown_str]
    exact okS_repr (okS_iff.mpr (by simpa only [PyData.canLay0] using h))
  | .list xs, h => by
    rw [PyData.shown_list]
    exact okS_app (okS_app (okS_of _) (okS_join (okS_of _) (okS_all xs (by simpa only [PyData.canLay0] using h)))) (okS_of _)
  | .tuple xs, h => by
    rw [PyData.shown_tuple]
    exact okS_app (okS_app (okS_of _) (okS_join (okS_of _) (okS_all xs (by simpa only [PyData.canLay0] using h)))) (okS_of _)
  | .dict _, h => by simp [PyData.canLay0] at h
theorem okS_all : ∀ xs : List PyData, PyData.canLayAll0 xs = true → ∀ t ∈ PyData.shownAll xs, OkS t
  | [], _, t, ht => by rw [PyData.shownAll_nil] at ht; exact absurd ht (by simp)
  | x :: r, h, t, ht => by
    simp only [PyData.canLayAll0, Bool.and_eq_true] at h
    rw [PyData.shownAll_cons, List.mem_cons] at ht
    rcases ht with rfl | ht
    · exact okS_shown x h.1
    · exact okS_all r h.2 t ht
end
theorem shaped_strs {ys : List Str} (h : ∀ y ∈ ys, PyData.strOk y = true) : SeqAt.shaped (.list (ys.map .str)) = true := by
  have a : ∀ zs : List Str, (∀ y ∈ zs, PyData.strOk y = true) → PyData.canLayAll0 (zs.map .str) = true ∧ PyData.depthAll (zs.map .str) ≤ 0 := by
    intro zs
    induction zs with
    | nil => exact fun _ => ⟨rfl, Nat.le_of_eq (by simp [PyData.depthAll])⟩
    | cons z zs ih =>
      intro hz
      obtain ⟨h1, h2⟩ := ih fun y hy => hz y (List.mem_cons_of_mem _ hy)
      exact ⟨by simp [PyData.canLayAll0, PyData.canLay0, h1, hz z List.mem_cons_self], by simp [PyData.depthAll, PyData.depth] at h2 ⊢; exact h2⟩
  obtain ⟨h1, h2⟩ := a ys h
  unfold SeqAt.shaped
  rw [Bool.and_eq_true]
  exact ⟨by simp only [PyData.canLay0]; exact h1, decide_eq_true (by simp only [PyData.depth]; omega)⟩
theorem eqv_strs (ys : List Str) (h : ∀ y ∈ ys, PyData.strOk y = true) : PyData.eqv (.list (ys.map .str)) (.list (ys.map .str)) = true := by
  have := shaped_strs h
  unfold SeqAt.shaped at this
  rw [Bool.and_eq_true] at this
  exact SeqAt.eqv_refl _ this.1
end N
namespace J
open PySem PySem.Spec
open PyProof.Rows L2
theorem cvTupC {K : PySem.W.Frag} {μ : Sto} {ds : List PyData} {n0 : Nat} (hn : μ[n0]? = some ds) : CallV K (fun xs H Q => ∃ p ys, xs = [V.ref p] ∧ ((SqL K H p ys ∧ ∀ l, H l = none → Q (.ref l) (upd H l (.tup ys))) ∨ (SqT K H p ys ∧ Q (.ref p) H))) [.ptr n0] (Tp ds) μ := call1 fun w H v m a Q q => by
  obtain ⟨p, hp, rfl⟩ := a
  obtain ⟨vs, hb, hd⟩ := m.cell n0 p ds hp hn
  exact ⟨p, vs, rfl, .inl ⟨SqL.of hb, new_tup m hd q⟩⟩
theorem bTupCell {X : Cx} {ρ : REnv} {μ μ1 : Sto} {a : Expr} {p pos : Pos} {ds : List PyData} {n0 : Nat} (T : X.mg "tuple" = none) (ha : EV X a ρ μ (.ptr n0) μ1) (hn : μ1[n0]? = some ds) (hg : Gl X "tuple" := by rfl) (hs : starEach [a] X.env = (false, eval a X.env) :: starEach [] X.env := by rfl) : EV X (.Call (.Name "tuple" p) [a] [] pos) ρ μ (Tp ds) μ1 := EV.callTy call_tuple_of T (by decide +kernel) (AV.cons ha AV.nil hs) (cvTupC hn) hg (by decide) (by decide) hs (by rfl)
end J
namespace G
open PySem J L2
noncomputable def abc : List Nat := M.letters.cps.toList
noncomputable def pieceP (p : Pu) : Str × Pu := (⟨(many (pick 0 abc) (1 + (draw 4 p).1).toNat (draw 4 p).2).1.toArray⟩, (many (pick 0 abc) (1 + (draw 4 p).1).toNat (draw 4 p).2).2)
noncomputable def pieces (most : Int) (p : Pu) : List Str × Pu := run (fun (_ : Nat) => pieceP) (List.range (1 + (draw most p).1).toNat) (draw most p).2
theorem piece_ok {p : Pu} (h : p.ok) : GR.Piece (pieceP p).1 ∧ (pieceP p).2.ok := by
  obtain ⟨a0, a1, h1⟩ := draw_ok (m := 4) h (by decide)
  obtain ⟨r1, r2⟩ := run_ok (R := fun (_ : Nat) c => c ∈ abc) (f := fun (_ : Nat) => pick 0 abc) (List.range (1 + (draw 4 p).1).toNat) _ (fun b _ q hq => pick_ok hq (by decide)) h1
  have hl := run_len (fun (_ : Nat) => pick 0 abc) (List.range (1 + (draw 4 p).1).toNat) (draw 4 p).2
  rw [List.length_range] at hl
  refine ⟨⟨?_, fun c hc => ?_⟩, r2⟩
  · show 1 ≤ (many (pick 0 abc) (1 + (draw 4 p).1).toNat (draw 4 p).2).1.toArray.size ∧ (many (pick 0 abc) (1 + (draw 4 p).1).toNat (draw 4 p).2).1.toArray.size ≤ 4
    rw [List.size_toArray, hl]
    omega
  · obtain ⟨_, _, e⟩ := r1 c (by simpa [pieceP] using hc)
    exact e
theorem pieces_ok {most : Int} {p : Pu} (h : p.ok) (m0 : 0 < most) : (∀ s ∈ (pieces most p).1, GR.Piece s) ∧ (pieces most p).2.ok ∧ 1 ≤ (pieces most p).1.length ∧ ((pieces most p).1.length : Int) ≤ most := by
  obtain ⟨a0, a1, h1⟩ := draw_ok (m := most) h m0
  obtain ⟨r1, r2⟩ := run_ok (R := fun (_ : Nat) s => GR.Piece s) (f := fun (_ : Nat) => pieceP) (List.range (1 + (draw most p).1).toNat) _ (fun b _ q hq => piece_ok hq) h1
  have hl := run_len (fun (_ : Nat) => pieceP) (List.range (1 + (draw most p).1).toNat) (draw most p).2
  rw [List.length_range] at hl
  exact ⟨fun s hs => (r1 s hs).elim fun _ z => z.2, r2, by show 1 ≤ (run _ _ _).1.length; omega, by show ((run _ _ _).1.length : Int) ≤ most; omega⟩
end G
namespace J
open PySem PySem.Spec
open PyProof.Rows L2
theorem bIntB {X : Cx} {ρ : REnv} {μ μ1 : Sto} {a : Expr} {p pos : Pos} {k : Bool} (T : Bt X.mg) (ha : EV X a ρ μ (Bb k) μ1) (hg : Gl X "int" := by rfl) (hs : starEach [a] X.env = (false, eval a X.env) :: starEach [] X.env := by rfl) : EV X (.Call (.Name "int" p) [a] [] pos) ρ μ (Ii (if k then 1 else 0)) μ1 := EV.callTy call_int1 T.int (by decide +kernel) (AV.cons ha AV.nil hs) (call1 fun w H v m a Q q => by
  cases a
  exact .inr ⟨_, rfl, q _ H m (fun _ _ h _ _ => h) (Dq.int _)⟩) hg (by decide) (by decide) hs (by rfl)
theorem join_abc (cs : List Nat) : Txt.join "" (cs.map fun c => (⟨#[c]⟩ : Str)) = ⟨cs.toArray⟩ := by
  have h : Txt.join (SX.S []) ((cs.map fun c => [c]).map SX.S) = SX.S cs := by rw [SX.join_S, join_nil]
  rw [List.map_map] at h
  exact h
theorem abc_eq : ("abcdefghijklmnopqrstuvwxyz" : Str) = M.letters := by decide +kernel
theorem abc_str : strD M.letters = G.abc.map fun c => .str ⟨#[c]⟩ := rfl
section
variable {w : World} {P : Program} {K : PySem.W.Frag} {base : Heap} {mg : Str → Option Value}
noncomputable abbrev nPs : List Str := ["_law_purse_here", "_law_most", "_law_letters", "_law_found", "_law_k", "_law_turn"]
theorem scPs : FnScope nPs ["_law_purse_here", "_law_most"] (defScope sLPieces) := ⟨rfl, rfl, rfl, by decide +kernel, rfl, by decide +kernel, by decide +kernel⟩
noncomputable def cnPs : Con := fun rs μ r μ' => ∃ (k : Nat) (p : G.Pu) (most : Int), rs = [.ptr k, Ii most] ∧ (μ[k]? = some p.ds ∧ p.ok ∧ 0 < most ∧ most ≤ 99) ∧ r = Tp ((G.pieces most p).1.map .str) ∧ μ' = μ.set k (G.pieces most p).2.ds
theorem cPs (T : Bt mg) (C1 : CDraw P w K mg base) (C2 : CPick P w K mg base) (D : Df K mg "_law_pieces" sLPieces) : Cal P w K mg base "_law_pieces" 3 ["_law_purse_here", "_law_most"] cnPs := by
  refine D.cal scPs (fun _ _ _ _ _ _ us hl => len2 us hl fun _ _ => rfl) (by decide) (fun rs μ r μ' h => by obtain ⟨_, _, _, _, _, _, rfl⟩ := h; simp) fun f cdv A outer s H E hr rs μ r μ' hC => ?_
  obtain ⟨k, p, most, rfl, ⟨hk, hp, m0, m99⟩, rfl, rfl⟩ := hC
  have hkl := (List.getElem?_eq_some_iff.mp hk).1
  refine ST.set (i := 2) (EV.eq EV.str (congrArg Ss abc_eq)) scPs.nd rfl (by first | exact Or.inl rfl | exact Or.inr rfl) ?_
  refine ST.cell (i := 3) (EVF.lst (ds := []) AV.nil) scPs.nd rfl (Or.inl rfl) ?_
  refine ST.envK (ρ' := [some (.ptr k), some (Ii most), some (Ss M.letters), some (.ptr μ.length), none, none]) rfl ?_
  have cell : ∀ {c xs : List PyData}, (μ.set k c ++ [xs])[μ.length]? = some xs := fun {c xs} => by
    have := at_last (μ := μ.set k c) (x := xs) (rest := [])
    rwa [List.length_set] at this
  have sets : ∀ {c xs ys : List PyData}, (μ.set k c ++ [xs]).set μ.length ys = μ.set k c ++ [ys] := fun {c xs ys} => by
    have := set_last (μ := μ.set k c) (x := xs) (y := ys) (rest := [])
    rwa [List.length_set] at this
  have cup : ∀ {c xs : List PyData}, (μ.set k c ++ [xs])[k]? = some c := fun {c xs} => by
    rw [List.getElem?_append_left (by rw [List.length_set]; exact hkl), List.getElem?_set_self hkl]
  have cupS : ∀ {c xs ys : List PyData}, (μ.set k c ++ [xs]).set k ys = μ.set k ys ++ [xs] := fun {c xs ys} => by
    rw [List.set_append_left _ _ (by rw [List.length_set]; exact hkl), List.set_set]
  obtain ⟨a0, a1, hp1⟩ := G.draw_ok (m := most) hp m0
  unfold G.pieces
  generalize hd1 : (G.draw most p).1 = n at *
  generalize hd2 : (G.draw most p).2 = p1 at *
  have e0 : μ ++ [[]] = μ.set k p.ds ++ [([] : List PyData)] := by rw [← set_same hk]
  have hn : ∃ m : Nat, 1 + n = (m : Int) := ⟨(1 + n).toNat, by omega⟩
  obtain ⟨m, hm⟩ := hn
  rw [hm, Int.toNat_natCast]
  refine ST.for_ (is := [4]) (ds := rngD 0 m) (μ1 := μ.set k p1.ds ++ [[]]) (IV.eqD (IV.rng1 (j := (m : Int)) (EV.eq (oAdd EV.int (EV.st (EV.drawE C1 hd1 hd2 hr (nm 0) (nm 1) (by rw [e0]; exact cup) hp m0 (by omega)) (by rw [e0]; exact cupS))) (congrArg Ii hm)) (by omega) (by omega) T.range) (by rw [Int.toNat_natCast])) (fun i ρ ν => (∃ b4, ρ = [some (.ptr k), some (Ii most), some (Ss M.letters), some (.ptr μ.length), b4, none]) ∧ ν = μ.set k (G.run (fun (_ : Nat) => G.pieceP) (List.range i) p1).2.ds ++ [(G.run (fun (_ : Nat) => G.pieceP) (List.range i) p1).1.map .str]) ⟨⟨_, rfl⟩, rfl⟩ (fun i d ρ ν hd hI => ?_) (fun ρ ν hI => ?_)
  · obtain ⟨⟨b4, rfl⟩, rfl⟩ := hI
    have hi : i < m := by
      have := (List.getElem?_eq_some_iff.mp hd).1
      rwa [rngD_len] at this
    have hrun := G.run_ok (R := fun (_ : Nat) s => GR.Piece s) (f := fun (_ : Nat) => G.pieceP) (List.range i) p1 (fun b _ q hq => G.piece_ok hq) hp1
    have hrl := G.run_len (fun (_ : Nat) => G.pieceP) (List.range i) p1
    rw [List.length_range] at hrl
    rw [List.range_succ, G.run_snoc]
    generalize (G.run (fun (_ : Nat) => G.pieceP) (List.range i) p1).1 = acc at *
    have hq := hrun.2
    generalize (G.run (fun (_ : Nat) => G.pieceP) (List.range i) p1).2 = q at *
    obtain ⟨c0, c1, hq1⟩ := G.draw_ok (m := 4) hq (by decide)
    refine ⟨_, GV.name (i := 4) scPs.nd rfl (Or.inl rfl) (by simp), ?_⟩
    show ST _ _ _ _ _ _ _
    have hfst : (G.pieceP q).1 = ⟨(G.many (G.pick 0 G.abc) (1 + (G.draw 4 q).1).toNat (G.draw 4 q).2).1.toArray⟩ := rfl
    have hsnd : (G.pieceP q).2 = (G.many (G.pick 0 G.abc) (1 + (G.draw 4 q).1).toNat (G.draw 4 q).2).2 := rfl
    dsimp only
    rw [List.map_append, List.map_cons, List.map_nil, hfst, hsnd]
    generalize hx1 : (G.draw 4 q).1 = y at *
    generalize hx2 : (G.draw 4 q).2 = q2 at *
    obtain ⟨j, hj⟩ : ∃ j : Nat, 1 + y = (j : Int) := ⟨(1 + y).toNat, by omega⟩
    rw [hj, Int.toNat_natCast]
    have hlen := G.run_len (fun (_ : Nat) => G.pick 0 G.abc) (List.range j) q2
    refine ST.expr (EV.app (d := .str ⟨(G.many (G.pick 0 G.abc) j q2).1.toArray⟩) (nm 3) (EV.eq (EV.join (ys := (G.many (G.pick 0 G.abc) j q2).1.map fun c => ⟨#[c]⟩) EV.str (EV.eq (LCV.evf (own := [("_law_turn", 5)]) (LCV.run (k := k) (p := q2) (bs := List.range j) (fun (i : Nat) => PyData.int (0 + (i : Int))) (fun c => .str ⟨#[c]⟩) (fun _ => G.pick 0 G.abc) (IV.eqD (IV.rng1 (j := (j : Int)) (EV.eq (oAdd EV.int (EV.st (EV.drawE C1 hx1 hx2 hr (nm 0) EV.int cup hq) cupS)) (congrArg Ii hj)) (by omega) (by omega) T.range) (by rw [Int.toNat_natCast]; rfl)) (by rw [cupS]) hq1 (fun b hb q hq => (G.pick_ok hq (by decide)).2) (fun b hb q3 hq3 => ?_) (by rw [List.length_range]; omega)) rfl scPs.nd (blkOk_by (N := nPs) (sc := defScope sLPieces) (by decide +kernel))).ev ?_) ?_) (congrArg Ss (join_abc _))) (by rw [cupS]; exact cell) (by rw [List.length_map]; omega)) (ST.nil ⟨⟨_, rfl⟩, by rw [cupS, sets]⟩)
    · have e1 := pick_map (d := 0) (d' := PyData.none) (fun c => PyData.str ⟨#[c]⟩) hq3 (l := G.abc) (by decide)
      refine ⟨_, fun _ _ _ _ _ => GV.name (i := 5) scPs.nd rfl (Or.inl rfl) (by simp), fun _ _ _ _ _ => ?_⟩
      refine EV.call C2 (hr.mono (by decide)) (AV.cons (nm 0) (AV.cons (nm 2) AV.nil)) ⟨k, q3, _, _, rfl, ⟨by rw [cupS]; exact cup, hq3, .inr ⟨_, rfl, rfl, by decide⟩, by decide, by decide⟩, ?_, ?_⟩
      · rw [abc_str, e1]
      · rw [abc_str, e1, cupS, cupS, cupS]
    · rw [List.map_map]
      rfl
    · have hs : ∀ l : List Nat, ((l.map fun c => (⟨#[c]⟩ : Str)).map (·.length)).sum = l.length := by
        intro l
        induction l with
        | nil => rfl
        | cons c l ih =>
          rw [List.map_cons, List.map_cons, List.sum_cons, ih, List.length_cons]
          show 1 + l.length = l.length + 1
          omega
      rw [hs, List.length_map, hlen, List.length_range]
      have : ((("" : String) : Str)).length = 0 := by decide
      rw [this]
      omega
  · obtain ⟨⟨b4, rfl⟩, rfl⟩ := hI
    rw [rngD_len]
    refine ST.retP (bTupCell T.tuple (nm 3) cell) rfl ?_
    have := List.take_left (l₁ := μ.set k (G.run (fun (_ : Nat) => G.pieceP) (List.range m) p1).2.ds) (l₂ := [(G.run (fun (_ : Nat) => G.pieceP) (List.range m) p1).1.map PyData.str])
    rwa [List.length_set] at this
end
end J
namespace J
open PySem PySem.Spec
open PyProof.Rows L2
noncomputable def rngC (lo c : Int) (n : Nat) : List PyData := (List.range n).map fun (i : Nat) => PyData.int (lo + (i : Int) * c)
theorem rngC_len {lo c : Int} {n : Nat} : (rngC lo c n).length = n := by simp [rngC]
theorem wk_rngC {lo c : Int} {n : Nat} {G : Hp} : Wk (Itc lo c n) G (rngC lo c n) := by
  refine ⟨fun H2 st i d e => ?_, fun H2 st => by show n ≤ (rngC lo c n).length; rw [rngC_len]; exact Nat.le_refl n⟩
  have hi : i < n := by
    have := (List.getElem?_eq_some_iff.mp e).1
    rwa [rngC_len] at this
  refine ⟨hi, fun x H3 y => ?_⟩
  obtain ⟨rfl, rfl⟩ := y
  refine ⟨Same.refl _, fun T st2 _ => ?_⟩
  have : d = .int (lo + (i : Int) * c) := by
    unfold rngC at e
    rw [List.getElem?_map] at e
    simp [hi] at e
    exact e.symm
  rw [this]
  exact .int _
section
variable {X : Cx} {ρ : REnv} {μ μ1 μ2 μ3 : Sto} {tg a b c : Expr} {i j k : Int} {n : Nat} {pos p : Pos}
theorem IV.rng3 (ha : EV X a ρ μ (Ii i) μ1) (hb : EV X b ρ μ1 (Ii j) μ2) (hc : EV X c ρ μ2 (Ii k) μ3) (h : RgC i j k n) (hm : X.mg "range" = none) (hg : Gl X "range" := by rfl)
    (hs : starEach [a, b, c] X.env = (false, eval a X.env) :: starEach [b, c] X.env := by rfl) (hs2 : starEach [b, c] X.env = (false, eval b X.env) :: starEach [c] X.env := by rfl) (hs3 : starEach [c] X.env = (false, eval c X.env) :: starEach [] X.env := by rfl) (hpl : (backTo pos (starEach [b, c] X.env)).any (·.1) = false := by rfl) : IV X tg (.Call (.Name "range" p) [a, b, c] [] pos) ρ μ (rngC i k n) μ3 := by
  intro w σ H m s R q
  refine ⟨_, pi_range3 hg hm (pa_cons (p_ex (e := a)) (pa_cons (p_ex (e := b)) (pa_cons (p_ex (e := c)) pa_nil hs3) hs2) hs) hs hpl, ?_⟩
  refine ha w σ H m s _ fun v H1 m1 f1 hv => ?_
  cases hv
  refine hb w σ H1 m1 (s.fr f1) _ fun v H2 m2 f2 hv => ?_
  cases hv
  refine hc w σ H2 m2 ((s.fr f1).fr f2) _ fun v H3 m3 f3 hv => ?_
  cases hv
  exact ⟨i, j, k, n, rfl, h, q _ H3 m3 ((f1.trans f2).trans f3) wk_rngC⟩
end
end J
namespace M
open PySem J L2
noncomputable def spots (e n d : Int) : List Int := (List.range (Builtin.Range.rangeSize e n d).toNat).map fun (k : Nat) => e + (k : Int) * d
end M
namespace J
open PySem PySem.Spec
open PyProof.Rows L2
theorem rngC_spots (e n d : Int) : rngC e d (Builtin.Range.rangeSize e n d).toNat = (M.spots e n d).map .int := by
  unfold rngC M.spots
  rw [List.map_map]
  rfl
end J
namespace GC
open PySem J L2 M
theorem spot_iff {e n d p : Int} (he : 0 ≤ e) (hd : 1 ≤ d) (hr : e < d) : p ∈ spots e n d ↔ 0 ≤ p ∧ p < n ∧ p % d = e := by
  unfold spots
  have hd0 : 0 < d := Int.lt_of_lt_of_le Int.zero_lt_one hd
  have hdn : 0 ≤ d := Int.le_of_lt hd0
  constructor
  · intro h
    obtain ⟨k, hk, rfl⟩ := List.mem_map.mp h
    have hk' := List.mem_range.mp hk
    unfold Builtin.Range.rangeSize at hk'
    rw [if_pos hd0] at hk'
    split at hk'
    · have h1 : (k : Int) ≤ (n - e - 1) / d := by omega
      have h2 := (Int.le_ediv_iff_mul_le hd0).mp h1
      have h3 : 0 ≤ (k : Int) * d := Int.mul_nonneg (Int.natCast_nonneg k) hdn
      refine ⟨Int.add_nonneg he h3, by omega, ?_⟩
      rw [Int.add_mul_emod_self_right]
      exact Int.emod_eq_of_lt he hr
    · simp at hk'
  · rintro ⟨h0, hn, hm⟩
    have hdiv : p = e + p / d * d := by
      have := Int.mul_ediv_add_emod p d
      rw [hm, Int.mul_comm, Int.add_comm] at this
      exact this.symm
    have hq : 0 ≤ p / d := Int.ediv_nonneg h0 hdn
    have h3 : 0 ≤ p / d * d := Int.mul_nonneg hq hdn
    refine List.mem_map.mpr ⟨(p / d).toNat, List.mem_range.mpr ?_, ?_⟩
    · unfold Builtin.Range.rangeSize
      rw [if_pos hd0, if_pos (by omega)]
      have h1 : p / d ≤ (n - e - 1) / d := (Int.le_ediv_iff_mul_le hd0).mpr (by omega)
      omega
    · rw [Int.toNat_of_nonneg hq]
      exact hdiv.symm
end GC
namespace GL
open PySem J L2 M
noncomputable abbrev Rn := Option (Nat × Nat)
noncomputable def nt : Rn := some (0, 0)
noncomputable def jn : Rn → Rn → Rn
  | some p, some q => if p = (0, 0) then some q else if q = (0, 0) then some p else if p.2 = q.1 then some (p.1, q.2) else none
  | _, _ => none
noncomputable def sp (c : G.Part) (n : Nat) : List Nat := (spots c.over (n : Int) c.by_).map Int.toNat
noncomputable def put (sp : List Nat) (vs acc : List Rn) : List Rn := (sp.zip vs).foldl (fun a q => a.set q.1 q.2) acc
theorem spots_sp {c : G.Part} {n : Nat} (h1 : 0 ≤ c.over) (h2 : 1 ≤ c.by_) (h3 : c.over < c.by_) : spots c.over (n : Int) c.by_ = (sp c n).map fun (p : Nat) => (p : Int) := by
  unfold sp
  rw [List.map_map]
  conv => lhs; rw [← List.map_id (spots c.over (n : Int) c.by_)]
  refine List.map_congr_left fun q hq => ?_
  have := ((GC.spot_iff h1 h2 h3).mp hq).1
  show q = ((q.toNat : Nat) : Int)
  omega
end GL
namespace J
open PySem PySem.Spec
open PyProof.Rows L2
noncomputable def putL {α : Type} (ps : List Nat) (vs acc : List α) : List α := (ps.zip vs).foldl (fun a q => a.set q.1 q.2) acc
theorem putL_len {α : Type} (ps : List Nat) (vs acc : List α) : (putL ps vs acc).length = acc.length := by
  unfold putL
  generalize ps.zip vs = l
  induction l generalizing acc with
  | nil => rfl
  | cons q l ih => rw [List.foldl_cons, ih, List.length_set]
theorem putL_map {α β : Type} (f : α → β) (ps : List Nat) (vs acc : List α) : putL ps (vs.map f) (acc.map f) = (putL ps vs acc).map f := by
  unfold putL
  rw [List.zip_map_right]
  generalize ps.zip vs = l
  induction l generalizing acc with
  | nil => rfl
  | cons q l ih =>
    rw [List.map_cons, List.foldl_cons, List.foldl_cons]
    show List.foldl _ ((acc.map f).set q.1 (f q.2)) _ = _
    rw [← List.map_set, ih]
theorem putL_get {α : Type} : ∀ (ps : List Nat) (vs acc : List α), ps.length = vs.length → ps.Nodup → (∀ p ∈ ps, p < acc.length) → ∀ i, (putL ps vs acc)[i]? = match ps.idxOf? i with
    | some j => vs[j]?
    | none => acc[i]?
  | [], vs, acc, _, _, _, i => by cases vs <;> rfl
  | p :: ps, [], acc, h, _, _, i => by simp at h
  | p :: ps, v :: vs, acc, h, nd, hp, i => by
    have ih := putL_get ps vs (acc.set p v) (by simpa using h) (List.nodup_cons.mp nd).2 (fun q hq => by rw [List.length_set]; exact hp q (List.mem_cons_of_mem _ hq)) i
    have e : putL (p :: ps) (v :: vs) acc = putL ps vs (acc.set p v) := rfl
    rw [e, ih, List.idxOf?_cons]
    by_cases z : p = i
    · subst z
      have hn : ps.idxOf? p = none := by
        rw [List.idxOf?_eq_none_iff]
        exact (List.nodup_cons.mp nd).1
      rw [hn, if_pos (beq_self_eq_true p)]
      dsimp only
      rw [List.getElem?_set_self (hp p List.mem_cons_self)]
      rfl
    · rw [if_neg (by simpa using z)]
      cases hq : ps.idxOf? i with
      | none =>
        dsimp only [Option.map]
        rw [List.getElem?_set_ne z]
      | some j =>
        dsimp only [Option.map]
        rw [List.getElem?_cons_succ]
theorem putL_off {α : Type} : ∀ (rest vs pre : List α), vs.length = rest.length → putL (List.range' pre.length rest.length) vs (pre ++ rest) = pre ++ vs
  | [], [], pre, _ => by simp [putL]
  | [], v :: vs, pre, h => by simp at h
  | x :: rest, [], pre, h => by simp at h
  | x :: rest, v :: vs, pre, h => by
    rw [List.length_cons, List.range'_succ]
    show putL (List.range' (pre.length + 1) rest.length) vs ((pre ++ x :: rest).set pre.length v) = _
    have e : (pre ++ x :: rest).set pre.length v = (pre ++ [v]) ++ rest := by
      rw [List.set_append_right _ _ (Nat.le_refl _), Nat.sub_self]
      simp
    have := putL_off rest vs (pre ++ [v]) (by simpa using h)
    rw [List.length_append, List.length_singleton] at this
    rw [e, this, List.append_assoc]
    rfl
theorem putL_all {α : Type} (vs acc : List α) (h : vs.length = acc.length) : putL (List.range acc.length) vs acc = vs := by
  have := putL_off acc vs [] h
  rwa [List.length_nil, List.nil_append, List.nil_append, ← List.range_eq_range'] at this
noncomputable def plcs (lo st : Int) (n : Nat) : List Nat := sliceRange (sliceBounds (some lo) none (some st) n).1 (sliceBounds (some lo) none (some st) n).2.1 (sliceBounds (some lo) none (some st) n).2.2
theorem bnd_pos {lo st : Int} {n : Nat} (h0 : 0 ≤ lo) (h1 : 0 < st) : sliceBounds (some lo) none (some st) n = (min lo (n : Int), (n : Int), st) := by
  unfold sliceBounds
  simp only [Option.getD_some, show st > 0 from h1, if_true, show ¬ lo < 0 by omega, if_false]
  rw [Int.max_eq_right (by omega)]
theorem plcs_one (n : Nat) : plcs 0 1 n = List.range n := by
  unfold plcs
  rw [bnd_pos (by decide) (by decide), Int.min_eq_left (by omega)]
  unfold sliceRange
  dsimp only
  rw [if_pos (by decide)]
  have hc : (if (0 : Int) < (n : Int) then ((n : Int) - 0 + 1 - 1) / 1 else 0) = (n : Int) := by
    rw [Int.ediv_one]
    split <;> omega
  rw [hc, Int.toNat_natCast]
  conv => rhs; rw [← List.map_id (List.range n)]
  refine List.map_congr_left fun k _ => ?_
  show (0 + 1 * (k : Int)).toNat = k
  omega
theorem foldSet (ps : List Nat) (new : List Value) (its : List Value) : (ps.zip new).foldl (fun xs (q : Nat × Value) => xs.setIfInBounds q.1 q.2) its.toArray = (putL ps new its).toArray := by
  unfold putL
  generalize ps.zip new = l
  induction l generalizing its with
  | nil => rfl
  | cons q l ih =>
    rw [List.foldl_cons, List.foldl_cons, ← ih]
    congr 1
    exact List.setIfInBounds_toArray its q.1 q.2
theorem vals_putL : ∀ (ps : List Nat) {vs : List V} {us : List Value} {xs : List V} {its : List Value}, Vals vs us → Vals xs its → Vals (putL ps vs xs) (putL ps us its)
  | [], vs, us, xs, its, _, h => by
    cases vs <;> cases us <;> exact h
  | p :: ps, _, _, xs, its, .nil, h => h
  | p :: ps, _, _, xs, its, .cons r t, h => vals_putL ps t (h.set r p)
section
variable {prog : Program} {w : World} {A : Around} {E : Value → Shared → Prop} {s : Shared}
set_option maxRecDepth 100000 in
theorem store_step {l b sl : Addr} {its new : List Value} {n n2 : Nat} {vl vk : Value} {lo st : Int} {Q : Unit → Shared → Prop} (e : s.heap.get? l = some { cls := .type "list", data := .seq its.toArray n }) (e2 : s.heap.get? b = some { cls := .type "list", data := .seq new.toArray n2 }) (hne : l ≠ b)
    (hs : s.heap.IsSliceOf sl vl .none vk) (pl : IsPart vl (some lo)) (pk : IsPart vk (some st)) (h0 : 0 ≤ lo) (h1 : 0 < st) (h11 : st = 1 → lo = 0) (hlen : new.length = (plcs lo st its.length).length) (hz : its.length + new.length ≤ sizeLine)
    (h : ∀ f : Array Value → Array Value, f its.toArray = (putL (plcs lo st its.length) new its).toArray → Q () { s with heap := s.heap.update l (Obj.mapSeq f) }) : wpAny (model prog w) A (setItem (.ref l) (.ref sl) (.ref b)) Q E s := by
  have lL : s.heap.IsList l its.toArray := PySem.IsL.isList e
  have lB : s.heap.IsList b new.toArray := PySem.IsL.isList e2
  obtain ⟨os, o1, o2, o3⟩ := id hs
  have tS : s.TypeIs (.ref sl) "slice" := ⟨os, o1, o2⟩
  have nz : ¬ ((rawPart (some st) == rawInt 0) = true) := fun z => by
    have : st = 0 := by simpa [rawPart, rawInt] using z
    omega
  have ns : Builtin.List.listSameRef (.ref l) (.ref b) = false := beq_eq_false_iff_ne.mpr hne
  unfold setItem
  try with_reducible refine wpAny_holding ?_ <;> skip
  first | refine wpAny_bind (wpAny_pure ?_) <;> skip | skip
  refine wpAny_bind (wpAny_sequenceKey lL.typeIs (by decide) (wpAny_bind (wpAny_callSpecial?_slot (name := Str.ofString "__setitem__") lL.typeIs slot_list_setitem (wpAny_call_entry slot_list_setitem lL.typeIs entry_list_setitem ?_ (args_list_setitem _ _ _)))))
  show wpAny _ _ (Builtin.List.listSubscript? (.ref sl) >>= _) _ _ s; refine wpAny_bind ?_; unfold Builtin.List.listSubscript?; refine wpAny_bind (wpAny_specialOf tS slice_no_index ?_); simp only [Option.isNone_none, if_true]; refine wpAny_pure ?_
  show wpAny _ _ (typeOf (.ref sl) >>= _) _ _ s; refine wpAny_bind (wpAny_typeOf tS ?_); first | rw [if_neg (by decide)] | refine PySem.W.KFB.if_not (by decide) ?_
  rw [listSliceParts_eq]; refine wpAny_bind (wpAny_bind (wpAny_field o1 o3 (x := vk) rfl (wpAny_bind (wpAny_listPart pk ?_)))); rw [if_neg nz]
  refine wpAny_bind (wpAny_field o1 o3 (x := vl) rfl (wpAny_bind (wpAny_listPart pl (wpAny_bind (wpAny_field o1 o3 (x := .none) rfl (wpAny_bind (wpAny_listPart .none (wpAny_pure ?_))))))))
  first | simp only [ns, Bool.false_eq_true, if_false] | refine PySem.W.KFB.if_not ns ?_ | (dsimp only; rw [if_neg (by rw [ns]; exact Bool.false_ne_true)])
  refine wpAny_bind (m := Builtin.List.listAllItems (.ref b) "must assign iterable to extended slice") ?_; unfold Builtin.List.listAllItems; refine wpAny_bind (wpAny_typeOf lB.typeIs ?_)
  first | refine PySem.W.KFB.if_so (by decide) ?_ | rw [if_pos (by decide)] | simp only [beq_self_eq_true, Bool.true_or, if_true]
  unfold Builtin.List.listItems; refine wpAny_bind (wpAny_seqItems e2 rfl (wpAny_pure (wpAny_bind (wpAny_bind (wpAny_seqItems e rfl (wpAny_pure ?_))))))
  have hb := bnd_pos (n := its.toArray.size) h0 h1
  refine wpAny_bind (wpAny_of_eq ((sliceIndices_raw (some lo) none (some st) its.toArray.size (fun z => by cases z; omega)).trans (congrArg (pure : Int × Int × Int → Sem (Int × Int × Int)) hb)) ?_)
  show wpAny _ _ (if (st == 1) = true then _ else _) _ _ s
  by_cases hst : st = 1
  · have h00 := h11 hst
    subst hst h00
    rw [if_pos (by decide)]
    refine wpAny_bind (wpAny_rule ?_)
    have hsz : its.toArray.size + new.toArray.size ≤ sizeLine := by rw [List.size_toArray, List.size_toArray]; exact hz
    first | simp only [notLongL hsz, Bool.false_eq_true, if_false] | refine PySem.W.KFB.if_not (notLongL hsz) ?_
    first | refine wpAny_bind (wpAny_pure ?_) <;> skip | skip
    have hL : (putL (plcs 0 1 its.length) new its) = new := by
      rw [plcs_one] at hlen ⊢
      rw [List.length_range] at hlen
      exact putL_all new its hlen
    rw [hL] at h
    have e0 : (min 0 (its.toArray.size : Int)).toNat = 0 := by omega
    have e1 : (max (min 0 (its.toArray.size : Int)) (its.toArray.size : Int)).toNat = its.toArray.size := by omega
    rw [e0, e1]
    show wpAny _ _ (updateSeq l (fun xs => xs.extract 0 0 ++ new.toArray ++ xs.extract its.toArray.size) >>= _) _ _ s
    refine wpAny_bind (wpAny_updateSeq (hz := by rw [List.size_toArray]; omega) (_hz' := by simp; omega) e rfl (wpAny_bind (wpAny_letGo ?_)))
    have hq := h (fun xs => xs.extract 0 0 ++ new.toArray ++ xs.extract its.toArray.size) (by simp)
    first | exact wpAny_bind (wpAny_pure (wpAny_pure ⟨.none, rfl, wpAny_pure hq⟩)) | exact wpAny_pure ⟨.none, rfl, wpAny_pure hq⟩
  · rw [if_neg (by simpa using hst)]
    have hpl : sliceRange (min lo (its.toArray.size : Int)) (its.toArray.size : Int) st = plcs lo st its.length := by
      unfold plcs
      rw [List.size_toArray] at hb ⊢
      rw [hb]
    dsimp only
    rw [hpl, if_neg (by rw [List.size_toArray, hlen]; simp)]
    refine wpAny_bind (wpAny_rule ?_)
    show wpAny _ _ (updateSeq l (fun xs => ((plcs lo st its.length).zip new.toArray.toList).foldl (fun xs (k, x) => xs.setIfInBounds k x) xs) >>= _) _ _ s
    have hf : ((plcs lo st its.length).zip new.toArray.toList).foldl (fun xs (q : Nat × Value) => xs.setIfInBounds q.1 q.2) its.toArray = (putL (plcs lo st its.length) new its).toArray := foldSet _ _ _
    refine wpAny_bind (wpAny_updateSeq (hz := by rw [List.size_toArray]; omega) (_hz' := Nat.le_trans (Nat.le_of_eq (congrArg Array.size hf)) (by rw [List.size_toArray, putL_len]; omega)) e rfl (wpAny_bind (wpAny_letGo ?_)))
    have hq := h (fun xs => ((plcs lo st its.length).zip new.toArray.toList).foldl (fun xs (k, x) => xs.setIfInBounds k x) xs) hf
    first | exact wpAny_bind (wpAny_pure (wpAny_pure ⟨.none, rfl, wpAny_pure hq⟩)) | exact wpAny_pure ⟨.none, rfl, wpAny_pure hq⟩
end
section
variable {X : Cx} {o : Expr} {lo hi st : Option Expr} {to : TE} {tl ts : TO} {p2 pos : Pos}
theorem pg_step {c d : Expr} (ho : PE X o to) (hl : PO X (some c) tl) (hs : PO X (some d) ts)
    (ha : ∀ v, assign (.Subscript o (.Slice (some c) none (some d) p2) pos) X.env v = (do
      let ov ← holding [v] (eval o X.env)
      let iv ← holding [v, ov] (eval (.Slice (some c) none (some d) p2) X.env)
      standAt pos
      holding [v, ov, iv] (setItem ov iv v)
      release [v, ov, iv] []) := by intro _; rfl) :
    PG X (.Subscript o (.Slice (some c) none (some d) p2) pos) (fun v σ H Q => to σ H fun x H1 => tl σ H1 fun l H2 => ts σ H2 fun k H3 => ∃ (a b : Addr) (xs ys : List V) (i j : Int), l = some i ∧ k = some j ∧ 0 ≤ i ∧ 0 < j ∧ (j = 1 → i = 0) ∧ x = .ref a ∧ v = .ref b ∧ a ≠ b ∧ H3 a = some (.lst xs) ∧ H3 b = some (.lst ys) ∧ ys.length = (plcs i j xs.length).length ∧ xs.length + ys.length ≤ sizeLine ∧ Q σ (upd H3 a (.lst (putL (plcs i j xs.length) ys xs)))) := by
  refine ⟨fun pins s σ H v u Q I r h => ?_⟩
  rw [ha]
  refine wpAny_bind (wpAny_holding (thn (ho.run pins s σ H _ I h) fun ov s1 ⟨x, H1, I1, r1, q1⟩ => wpAny_bind (wpAny_holding (wpAny_Slice (thn (hl.run pins s1 σ H1 _ I1 q1) fun vl s2 hpat => ?_)))))
  obtain ⟨l, H2, I2, pl, q2⟩ := hpat
  rw [evalPart_none]
  refine wpAny_pure (thn (hs.run pins s2 σ H2 _ I2 q2) fun vk s4 hh => ?_)
  obtain ⟨k, H4, I4, pk, a, b, xs, ys, i, j, el, ek, h0, h1, h11, ex, ev, hne, ea, eb, hlen, hz, q4⟩ := hh
  subst el ek ex ev
  cases r1
  cases r
  have I5 : Inv X pins σ H4 { s4 with heap := s4.heap.push { cls := .type "slice", data := .fields #[vl, .none, vk] } } := I4.kept (t' := s4.toks) fun b ob q => Heap.get?_push_of_some _ q
  obtain ⟨z, its, n, rv, hl1, e1⟩ := I5.lstM ea
  obtain ⟨z2, its2, n2, rv2, hl2, e2⟩ := I5.lstM eb
  have l1 := rv.length
  have l2 := rv2.length
  rw [l1] at hlen hz q4
  refine wpAny_bind (wpAny_standAt (wpAny_bind (wpAny_holding (store_step e1 e2 hne (Heap.IsSliceOf.new ..) pl pk h0 h1 h11 (by rw [← l2]; exact hlen) (by rw [← l2]; exact hz) fun f hf => wpAny_release ⟨σ, _, I5.lset (its' := putL (plcs i j its.length) its2 its) (t' := s4.toks) ea e1 hf (vals_putL _ rv2 rv) (by rw [putL_len, l1]; exact Nat.le_trans (Nat.le_add_right _ _) hz), q4⟩))))
end
section
variable {X : Cx} {ρ : REnv} {μ : Sto} {o c e : Expr} {p2 pos : Pos} {n0 : Nat} {ds es : List PyData} {i j : Int}
theorem dq_putL {H : Hp} : ∀ (ps : List Nat) {vs xs : List V} {es ds : List PyData}, DqAll H vs es → DqAll H xs ds → DqAll H (putL ps vs xs) (putL ps es ds)
  | [], vs, xs, es, ds, _, h => by
    cases vs <;> cases es <;> exact h
  | p :: ps, _, _, _, _, .nil, h => h
  | p :: ps, _, _, _, _, .cons (v := v) (vs := vs) (d := d) (ds := es) r t, h => by
    have hset : ∀ (xs : List V) (ds : List PyData) (j : Nat), DqAll H xs ds → DqAll H (xs.set j v) (ds.set j d) := by
      intro xs
      induction xs with
      | nil => intro ds j h; cases h; exact .nil
      | cons x xs ih =>
        intro ds j h
        cases h with
        | cons h1 h3 =>
          cases j with
          | zero => exact .cons r h3
          | succ j => exact .cons h1 (ih _ j h3)
    exact dq_putL ps t (hset _ _ p h)
theorem GW.step (ho : EV X o ρ μ (.ptr n0) μ) (hc : EV X c ρ μ (Ii i) μ) (he : EV X e ρ μ (Ii j) μ) (hn : μ[n0]? = some ds) (h0 : 0 ≤ i) (h1 : 0 < j) (h11 : j = 1 → i = 0) (hlen : es.length = (plcs i j ds.length).length) (hz : ds.length + es.length ≤ sizeLine)
    (ha : ∀ v, assign (.Subscript o (.Slice (some c) none (some e) p2) pos) X.env v = (do
      let ov ← holding [v] (eval o X.env)
      let iv ← holding [v, ov] (eval (.Slice (some c) none (some e) p2) X.env)
      standAt pos
      holding [v, ov, iv] (setItem ov iv v)
      release [v, ov, iv] []) := by intro _; rfl) : GW X (.Subscript o (.Slice (some c) none (some e) p2) pos) (.list es) ρ μ ρ (μ.set n0 (putL (plcs i j ds.length) es ds)) := by
  intro w σ H v m s h Q q
  refine ⟨_, pg_step (p_ex (e := o)) (p_ox (e := some c)) (p_ox (e := some e)) ha, ?_⟩
  refine ho w σ H m s _ fun u H1 m1 f1 g1 => ?_
  obtain ⟨a0, ha0, rfl⟩ := g1
  refine (PartV.some hc) w σ H1 m1 (s.fr f1) _ fun H2 m2 f2 => ?_
  refine (PartV.some he) w σ H2 m2 ((s.fr f1).fr f2) _ fun H3 m3 f3 => ?_
  obtain ⟨xs, e3, hd⟩ := m3.cell n0 a0 ds ha0 hn
  have h3 := ((h.fr f1).fr f2).fr f3
  cases h3 with
  | @lst b ys _ hb hy =>
    obtain ⟨nb, eb⟩ := dl_some hb
    have hne : a0 ≠ b := fun z => nb (List.mem_append_left _ (z ▸ List.mem_of_getElem? ha0))
    obtain ⟨mm, ff⟩ := m3.put (ds := putL (plcs i j ds.length) es ds) (vs := putL (plcs i j xs.length) ys xs) ha0 (by rw [dqAll_len hd]; exact dq_putL _ hy hd)
    refine ⟨a0, b, xs, ys, i, j, rfl, rfl, h0, h1, h11, rfl, rfl, hne, e3, eb, by rw [dqAll_len hy, dqAll_len hd]; exact hlen, by rw [dqAll_len hy, dqAll_len hd]; exact hz, q σ _ mm (((f1.trans f2).trans f3).trans ff) ((((s.fr f1).fr f2).fr f3).fr ff)⟩
end
end J
namespace N
open PySem J L2
structure PartGood (x : G.Part) : Prop where
  b : 1 ≤ x.by_ ∧ x.by_ ≤ 3
  o : 0 ≤ x.over ∧ x.over < x.by_
  k : (x.word = "call" ∧ M.nameOk x.tag = true ∧ x.far = 0 ∧ x.side = Str.empty) ∨ (x.word = "clear" ∧ x.far = 0 ∧ x.side = Str.empty ∧ x.tag = Str.empty) ∨ ((x.word = "join" ∨ x.word = "take") ∧ (x.side = "left" ∨ x.side = "right") ∧ 1 ≤ x.far ∧ x.far ≤ 4 ∧ x.tag = Str.empty)
noncomputable def more (x : G.Part) : PyData := if x.word = "call" then .str x.tag else if x.word = "clear" then .int 0 else if x.side = "right" then .int x.far else .int (-x.far)
noncomputable def clauseOf (x : G.Part) : PyData := .tuple [.str x.word, .int x.over, .int x.by_, more x]
noncomputable def wordsOf (x : G.Part) : List Str :=
  if x.word = "call" then ["call", x.tag, "on", M.strI x.over, "of", M.strI x.by_]
  else if x.word = "clear" then ["clear", M.strI x.over, "of", M.strI x.by_]
  else [x.word, M.strI x.over, "of", M.strI x.by_, x.side, M.strI x.far]
theorem clause_words (x : G.Part) : G.clause x = Txt.join sp (wordsOf x) := by
  have e1 : (("call " : String) : Str) = "call" ++ sp := by decide +kernel
  have e2 : ((" on " : String) : Str) = sp ++ ("on" ++ sp) := by decide +kernel
  have e3 : ((" of " : String) : Str) = sp ++ ("of" ++ sp) := by decide +kernel
  have e4 : (("clear " : String) : Str) = "clear" ++ sp := by decide +kernel
  have e5 : ((" " : String) : Str) = sp := rfl
  rw [TL.join_eq]
  unfold G.clause wordsOf G.ends
  split
  · show _ = ("call" : Str) ++ sp ++ (x.tag ++ sp ++ ("on" ++ sp ++ (M.strI x.over ++ sp ++ ("of" ++ sp ++ M.strI x.by_))))
    rw [e1, e2, e3]
    simp only [Str.append_assoc]
  · split
    · show _ = ("clear" : Str) ++ sp ++ (M.strI x.over ++ sp ++ ("of" ++ sp ++ M.strI x.by_))
      rw [e4, e3]
      simp only [Str.append_assoc]
    · show _ = x.word ++ sp ++ (M.strI x.over ++ sp ++ ("of" ++ sp ++ (M.strI x.by_ ++ sp ++ (x.side ++ sp ++ M.strI x.far))))
      rw [e3, e5]
      simp only [Str.append_assoc]
theorem words_plain {x : G.Part} (h : PartGood x) : ∀ y ∈ wordsOf x, Plain y := by
  have p1 := plain_dig (i := x.over) (by have := h.o; omega) (by have := h.o; have := h.b; omega)
  have p2 := plain_dig (i := x.by_) (by have := h.b; omega) (by have := h.b; omega)
  have q1 : Plain "call" := by unfold Plain; decide +kernel
  have q2 : Plain "on" := by unfold Plain; decide +kernel
  have q3 : Plain "of" := by unfold Plain; decide +kernel
  have q4 : Plain "clear" := by unfold Plain; decide +kernel
  have q5 : Plain "join" := by unfold Plain; decide +kernel
  have q6 : Plain "take" := by unfold Plain; decide +kernel
  have q7 : Plain "left" := by unfold Plain; decide +kernel
  have q8 : Plain "right" := by unfold Plain; decide +kernel
  unfold wordsOf
  rcases h.k with ⟨hw, hn, _, _⟩ | ⟨hw, _⟩ | ⟨hw, hs, f1, f4, _⟩
  · rw [if_pos hw]
    have p3 := plain_name hn
    intro y hy
    simp only [List.mem_cons, List.not_mem_nil, or_false] at hy
    rcases hy with rfl | rfl | rfl | rfl | rfl | rfl <;> assumption
  · rw [if_neg (by rw [hw]; decide +kernel), if_pos hw]
    intro y hy
    simp only [List.mem_cons, List.not_mem_nil, or_false] at hy
    rcases hy with rfl | rfl | rfl | rfl <;> assumption
  · rw [if_neg (by rcases hw with hw | hw <;> rw [hw] <;> decide +kernel), if_neg (by rcases hw with hw | hw <;> rw [hw] <;> decide +kernel)]
    have p3 := plain_dig (i := x.far) (by omega) (by omega)
    have p4 : Plain x.word := by rcases hw with hw | hw <;> rw [hw] <;> assumption
    have p5 : Plain x.side := by rcases hs with hs | hs <;> rw [hs] <;> assumption
    intro y hy
    simp only [List.mem_cons, List.not_mem_nil, or_false] at hy
    rcases hy with rfl | rfl | rfl | rfl | rfl | rfl <;> assumption
theorem words_ne (x : G.Part) : wordsOf x ≠ [] := by
  unfold wordsOf
  split
  · simp
  · split <;> simp
theorem clause_split {x : G.Part} (h : PartGood x) : Txt.split (G.clause x) " " = wordsOf x := by
  rw [clause_words]
  exact split_join (sep := sp) (c := 32) (r := []) sp_tl sp_256 (words_ne x) fun y hy => (words_plain h y hy).1
theorem clause_free {x : G.Part} (h : PartGood x) : 59 ∉ TL.tl (G.clause x) := by
  rw [clause_words]
  intro z
  rcases join_mem z with h1 | ⟨y, hy, h1⟩
  · rw [sp_tl] at h1
    simp at h1
  · exact (words_plain h y hy).2 h1
theorem clause_read {x : G.Part} (h : PartGood x) : M.readClause (G.clause x) = clauseOf x := by
  have hs := clause_split h
  have d1 : M.readDigit (M.strI x.by_) 1 3 = .int x.by_ := dig_in (by decide) h.b.1 h.b.2 (by decide)
  have d2 : M.readDigit (M.strI x.over) 0 (x.by_ - 1) = .int x.over := dig_in (by decide) h.o.1 (by have := h.o; omega) (by have := h.b; omega)
  have hc : M.readClass [M.strI x.over, "of", M.strI x.by_] = .tuple [.int x.over, .int x.by_] := by
    unfold M.readClass
    dsimp only
    rw [d1]
    dsimp only
    rw [d2]
    rfl
  unfold M.readClause
  rw [hs]
  unfold wordsOf clauseOf more
  rcases h.k with ⟨hw, hn, _, _⟩ | ⟨hw, _⟩ | ⟨hw, hsd, f1, f4, _⟩
  · rw [if_pos hw, if_pos hw, hw]
    dsimp only
    rw [if_neg (by decide +kernel), if_neg (by decide +kernel), if_pos (by decide +kernel)]
    rw [if_pos (by rw [hn]; decide +kernel)]
    show M.putClause _ (M.readClass [M.strI x.over, "of", M.strI x.by_]) _ = _
    rw [hc]
    rfl
  · have n1 : ¬ x.word = "call" := by rw [hw]; decide +kernel
    rw [if_neg n1, if_neg n1, if_pos hw, if_pos hw, hw]
    dsimp only
    rw [if_neg (by decide +kernel), if_pos (by decide +kernel)]
    show M.putClause _ (M.readClass [M.strI x.over, "of", M.strI x.by_]) _ = _
    rw [hc]
    rfl
  · have n1 : ¬ x.word = "call" := by rcases hw with hw | hw <;> rw [hw] <;> decide +kernel
    have n2 : ¬ x.word = "clear" := by rcases hw with hw | hw <;> rw [hw] <;> decide +kernel
    have n3 : inD (.str x.word) [.str "join", .str "take"] = true := by rcases hw with hw | hw <;> rw [hw] <;> decide +kernel
    rw [if_neg n1, if_neg n1, if_neg n2, if_neg n2]
    dsimp only
    rw [if_pos n3]
    show M.putClause _ (M.readClass [M.strI x.over, "of", M.strI x.by_]) (M.readWay [x.side, M.strI x.far]) = _
    have hwy : M.readWay [x.side, M.strI x.far] = if x.side = "right" then .int x.far else .int (-x.far) := by
      have d3 : M.readDigit (M.strI x.far) 1 4 = .int x.far := dig_in (by decide) f1 f4 (by decide)
      unfold M.readWay
      dsimp only
      rw [if_pos (by rcases hsd with hsd | hsd <;> rw [hsd] <;> decide +kernel), d3]
      dsimp only
      rcases hsd with hsd | hsd
      · rw [hsd, if_neg (by decide +kernel), if_neg (by decide +kernel)]
      · rw [hsd, if_pos (by decide +kernel), if_pos rfl]
    rw [hc, hwy]
    split <;> rfl
end N
namespace GT
open PySem J L2 M GL
noncomputable def far (c : G.Part) : Int := if c.word = "clear" then 0 else if c.side = "right" then c.far else -c.far
noncomputable def thereS (ws : List Str) (q : Int) : Str := if 0 ≤ q ∧ q < (ws.length : Int) then ws.getD q.toNat Str.empty else Str.empty
noncomputable def valS (c : G.Part) (ws : List Str) (p : Nat) : Str :=
  if c.word = "clear" then Str.empty
  else if c.word = "take" then thereS ws ((p : Int) + far c)
  else if far c < 0 then thereS ws ((p : Int) + far c) ++ ws.getD p Str.empty else ws.getD p Str.empty ++ thereS ws ((p : Int) + far c)
noncomputable def dueS (g : Str × Int) (ws : List Str) : List Str := (List.range ws.length).map (GR.dueT g ws)
noncomputable abbrev RT := Option (List Str × Nat)
noncomputable abbrev LT := Str → List Str → Nat → RT
noncomputable def pickS (c : G.Part) (ws : List Str) : List Str := (sp c ws.length).map fun p => ws.getD p Str.empty
noncomputable def clsT (L : LT) (c : G.Part) (ws : List Str) (left : Nat) : RT :=
  if c.word = "call" then (if sp c ws.length = [] then some ([], left) else L c.tag (pickS c ws) left) else some ((sp c ws.length).map (valS c ws), left)
noncomputable def long (ws : List Str) : Bool := ws.any fun s => decide (1000 < s.length)
noncomputable def rndT (L : LT) : List G.Part → List Str → List Str → Nat → RT
  | [], _, acc, left => if long acc = true then none else some (acc, left)
  | c :: cs, ws, acc, left => match clsT L c ws left with
    | none => none
    | some (p, l) => rndT L cs ws (putL (sp c ws.length) p acc) l
noncomputable def runT (L : LT) : List (List G.Part) → List Str → Nat → RT
  | [], ws, left => some (ws, left)
  | r :: rs, ws, left => match rndT L r ws ws left with
    | none => none
    | some (ws', l) => runT L rs ws' l
noncomputable def ledT (ms : List G.Mate) : Nat → LT
  | 0, _, _, _ => none
  | n + 1, nm, ws, left => if left = 0 then none else match ms.find? (fun x => decide (x.tag = nm)) with
    | none => none
    | some x => if (ws.length : Int) ≤ x.base then some (dueS x.goal ws, left - 1) else runT (ledT ms n) x.rounds ws (left - 1)
structure Ok (ms : List G.Mate) : Prop where
  good : M.Good (ms.map G.told)
  read : ∀ x ∈ ms, ∀ r ∈ x.rounds, M.readRound (.str (G.line r)) = .tuple (r.map N.clauseOf) ∧ (G.line r).length ≤ 1000
  cl : ∀ x ∈ ms, ∀ r ∈ x.rounds, r.length ≤ 3 ∧ ∀ c ∈ r, N.PartGood c
  gg : ∀ x ∈ ms, Gg x.goal
  base : ∀ x ∈ ms, 1 ≤ x.base ∧ x.base ≤ 4
  many : ∀ x ∈ ms, x.rounds.length ≤ 5
  nd : (ms.map (·.tag)).Nodup
  l4 : ms.length ≤ 4
  call : ∀ (i : Nat) (x : G.Mate), ms[i]? = some x → ∀ r ∈ x.rounds, ∀ c ∈ r, c.word = "call" → ∃ (j : Nat) (y : G.Mate), ms[j]? = some y ∧ y.tag = c.tag ∧ (c.by_ = 1 → i < j)
noncomputable def ms_ (i n : Nat) : Nat := 4 * n + (4 - i)
theorem sp_key : ∀ (o b : _root_.Fin 3) (n : _root_.Fin 13), o.val < b.val + 1 → plcs (o.val : Int) ((b.val + 1 : Nat) : Int) n.val = (spots (o.val : Int) (n.val : Int) ((b.val + 1 : Nat) : Int)).map Int.toNat ∧ ((spots (o.val : Int) (n.val : Int) ((b.val + 1 : Nat) : Int)).map Int.toNat).Nodup ∧ (((spots (o.val : Int) (n.val : Int) ((b.val + 1 : Nat) : Int)).map Int.toNat).all fun p => decide (p < n.val)) = true ∧
    ((spots (o.val : Int) (n.val : Int) ((b.val + 1 : Nat) : Int)).map Int.toNat).length ≤ n.val ∧ (2 ≤ n.val → b.val ≠ 0 → ((spots (o.val : Int) (n.val : Int) ((b.val + 1 : Nat) : Int)).map Int.toNat).length + 1 ≤ n.val) := by decide +kernel
structure SpF (c : G.Part) (n : Nat) : Prop where
  pl : plcs c.over c.by_ n = sp c n
  nd : (sp c n).Nodup
  lt : ∀ p ∈ sp c n, p < n
  le : (sp c n).length ≤ n
  ls : 2 ≤ n → c.by_ ≠ 1 → (sp c n).length + 1 ≤ n
theorem part_nat {c : G.Part} (h : N.PartGood c) : ∃ o b : _root_.Fin 3, c.over = (o.val : Int) ∧ c.by_ = ((b.val + 1 : Nat) : Int) ∧ o.val < b.val + 1 := by
  obtain ⟨b1, b3⟩ := h.b
  obtain ⟨o0, o1⟩ := h.o
  exact ⟨⟨c.over.toNat, by omega⟩, ⟨(c.by_ - 1).toNat, by omega⟩, by dsimp only; omega⟩
theorem sp_f {c : G.Part} (h : N.PartGood c) {n : Nat} (hn : n ≤ 12) : SpF c n := by
  obtain ⟨o, b, ho, hb, hl⟩ := part_nat h
  have k := sp_key o b ⟨n, Nat.lt_succ_of_le hn⟩ hl
  dsimp only at k
  rw [← ho, ← hb] at k
  obtain ⟨k1, k2, k3, k4, k5⟩ := k
  exact ⟨k1, k2, fun p hp => of_decide_eq_true (List.all_eq_true.mp k3 p hp), k4, fun h2 hb1 => k5 h2 fun z => hb1 (by rw [hb, z]; rfl)⟩
theorem pick_is {α : Type} (d : α) {c : G.Part} {xs : List α} (h : SpF c xs.length) : pickD xs (some c.over) none (some c.by_) = (sp c xs.length).map fun p => xs.getD p d := by
  show (plcs c.over c.by_ xs.length).filterMap (xs[·]?) = _
  rw [h.pl]
  have : ∀ l : List Nat, (∀ p ∈ l, p < xs.length) → l.filterMap (xs[·]?) = l.map fun p => xs.getD p d := by
    intro l
    induction l with
    | nil => intro _; rfl
    | cons p l ih =>
      intro hl
      have hp := hl p List.mem_cons_self
      rw [List.filterMap_cons, List.getElem?_eq_getElem hp, List.map_cons, ih fun q hq => hl q (List.mem_cons_of_mem _ hq), List.getD_eq_getElem?_getD, List.getElem?_eq_getElem hp]
      rfl
  exact this _ h.lt
theorem pick_len {c : G.Part} {ws : List Str} : (pickS c ws).length = (sp c ws.length).length := by
  unfold pickS
  rw [List.length_map]
theorem due_len (g : Str × Int) (ws : List Str) : (dueS g ws).length = ws.length := by
  unfold dueS
  rw [List.length_map, List.length_range]
noncomputable def Sh (b : Nat) (ws : List Str) : Prop := ∀ s ∈ ws, s.length ≤ b
theorem Sh.mono {a b : Nat} {ws : List Str} (h : Sh a ws) (hab : a ≤ b) : Sh b ws := fun s hs => Nat.le_trans (h s hs) hab
theorem sh_getD {b : Nat} {ws : List Str} (h : Sh b ws) (i : Nat) : (ws.getD i Str.empty).length ≤ b := by
  rw [List.getD_eq_getElem?_getD]
  cases e : ws[i]? with
  | none => exact Nat.zero_le _
  | some w => exact h w (List.mem_iff_getElem?.mpr ⟨i, e⟩)
theorem sh_pick {b : Nat} {ws : List Str} (h : Sh b ws) (c : G.Part) : Sh b (pickS c ws) := fun s hs => by
  obtain ⟨p, _, rfl⟩ := List.mem_map.mp hs
  exact sh_getD h p
theorem sh_there {b : Nat} {ws : List Str} (h : Sh b ws) (q : Int) : (thereS ws q).length ≤ b := by
  unfold thereS
  split
  · exact sh_getD h _
  · exact Nat.zero_le _
theorem sh_val {b : Nat} {ws : List Str} (h : Sh b ws) (c : G.Part) (p : Nat) : (valS c ws p).length ≤ 2 * b := by
  unfold valS
  have a := sh_there h ((p : Int) + far c)
  have d := sh_getD h p
  split
  · exact Nat.zero_le _
  · split
    · omega
    · split <;> rw [strLen_append] <;> omega
theorem sh_put {b : Nat} {ps : List Nat} {vs acc : List Str} (h1 : Sh b vs) (h2 : Sh b acc) : Sh b (putL ps vs acc) := by
  unfold putL
  have : ∀ (l : List (Nat × Str)) (acc : List Str), (∀ q ∈ l, q.2.length ≤ b) → Sh b acc → Sh b (l.foldl (fun a q => a.set q.1 q.2) acc) := by
    intro l
    induction l with
    | nil => intro acc _ h; exact h
    | cons q l ih =>
      intro acc hq h
      rw [List.foldl_cons]
      refine ih _ (fun x hx => hq x (List.mem_cons_of_mem _ hx)) fun w hw => ?_
      rcases List.mem_or_eq_of_mem_set hw with hw | rfl
      · exact h w hw
      · exact hq q List.mem_cons_self
  exact this _ acc (fun q hq => h1 _ (List.of_mem_zip hq).2) h2
theorem sh_due {b : Nat} {g : Str × Int} {ws : List Str} (h : Sh b ws) : Sh (ws.length * b) (dueS g ws) := fun s hs => by
  obtain ⟨k, _, rfl⟩ := List.mem_map.mp hs
  unfold GR.dueT
  have hys : ∀ s ∈ (ws.take (GR.to_ g k)).drop (GR.from_ g k), s.length ≤ b := fun s h' => h s (List.mem_of_mem_take (List.mem_of_mem_drop h'))
  have hsum := sum_le (fun s : Str => s.length) b _ hys
  have hyl : ((ws.take (GR.to_ g k)).drop (GR.from_ g k)).length ≤ ws.length := by
    rw [List.length_drop, List.length_take]
    omega
  have e0 : (Str.empty).length = 0 := rfl
  have hj := join_le Str.empty ((ws.take (GR.to_ g k)).drop (GR.from_ g k))
  rw [e0, Nat.mul_zero, Nat.add_zero] at hj
  exact Nat.le_trans hj (Nat.le_trans hsum (Nat.mul_le_mul_right _ hyl))
structure LG (L : LT) : Prop where
  h : ∀ (nm : Str) (ws : List Str) (l : Nat) (out : List Str) (l' : Nat), Sh 1000 ws → ws.length ≤ 12 → L nm ws l = some (out, l') → out.length = ws.length ∧ Sh 4000 out ∧ l' < l
theorem cls_g {L : LT} (hL : LG L) {c : G.Part} (hc : N.PartGood c) {ws : List Str} (hn : ws.length ≤ 12) (hs : Sh 1000 ws) {l : Nat} {out : List Str} {l' : Nat} (h : clsT L c ws l = some (out, l')) : out.length = (sp c ws.length).length ∧ Sh 4000 out ∧ l' ≤ l := by
  unfold clsT at h
  split at h
  · split at h
    · rename_i e
      cases h
      rw [e]
      exact ⟨rfl, (fun s hs => by cases hs), Nat.le_refl _⟩
    · obtain ⟨a, b, d⟩ := hL.h _ _ _ _ _ (sh_pick hs c) (by rw [pick_len]; exact Nat.le_trans (sp_f hc hn).le hn) h
      exact ⟨by rw [a, pick_len], b, Nat.le_of_lt d⟩
  · cases h
    refine ⟨by rw [List.length_map], fun s hs' => ?_, Nat.le_refl _⟩
    obtain ⟨p, _, rfl⟩ := List.mem_map.mp hs'
    exact Nat.le_trans (sh_val hs c p) (by decide)
theorem rnd_g {L : LT} (hL : LG L) : ∀ (cs : List G.Part) {ws : List Str} (acc : List Str) (l : Nat) {out : List Str} {l' : Nat}, (∀ c ∈ cs, N.PartGood c) → ws.length ≤ 12 → Sh 1000 ws → acc.length = ws.length → rndT L cs ws acc l = some (out, l') → out.length = ws.length ∧ Sh 1000 out ∧ l' ≤ l
  | [], ws, acc, l, out, l', _, _, _, ha, h => by
    unfold rndT at h
    split at h
    · cases h
    · rename_i hlg
      cases h
      refine ⟨ha, fun s hs => ?_, Nat.le_refl _⟩
      unfold long at hlg
      rw [List.any_eq_true] at hlg
      exact Decidable.byContradiction fun z => hlg ⟨s, hs, decide_eq_true (by omega)⟩
  | c :: cs, ws, acc, l, out, l', hc, hn, hs, ha, h => by
    unfold rndT at h
    cases e : clsT L c ws l with
    | none => rw [e] at h; cases h
    | some q =>
      obtain ⟨p, l1⟩ := q
      rw [e] at h
      obtain ⟨g1, g2, g3⟩ := cls_g hL (hc c List.mem_cons_self) hn hs e
      obtain ⟨r1, r2, r3⟩ := rnd_g hL cs (putL (sp c ws.length) p acc) l1 (fun x hx => hc x (List.mem_cons_of_mem _ hx)) hn hs (by rw [putL_len]; exact ha) h
      exact ⟨r1, r2, by omega⟩
theorem run_g {L : LT} (hL : LG L) : ∀ (rs : List (List G.Part)) (ws : List Str) (l : Nat) {out : List Str} {l' : Nat}, (∀ r ∈ rs, ∀ c ∈ r, N.PartGood c) → ws.length ≤ 12 → Sh 1000 ws → runT L rs ws l = some (out, l') → out.length = ws.length ∧ Sh 1000 out ∧ l' ≤ l
  | [], ws, l, out, l', _, _, hs, h => by
    cases h
    exact ⟨rfl, hs, Nat.le_refl _⟩
  | r :: rs, ws, l, out, l', hc, hn, hs, h => by
    unfold runT at h
    cases e : rndT L r ws ws l with
    | none => rw [e] at h; cases h
    | some q =>
      obtain ⟨w1, l1⟩ := q
      rw [e] at h
      obtain ⟨g1, g2, g3⟩ := rnd_g hL r ws l (hc r List.mem_cons_self) hn hs rfl e
      obtain ⟨r1, r2, r3⟩ := run_g hL rs w1 l1 (fun x hx => hc x (List.mem_cons_of_mem _ hx)) (by omega) g2 h
      exact ⟨by omega, r2, by omega⟩
theorem led_g {ms : List G.Mate} (O : Ok ms) : ∀ n : Nat, LG (ledT ms n)
  | 0 => ⟨fun nm ws l out l' _ _ h => by cases h⟩
  | n + 1 => ⟨fun nm ws l out l' hs hn h => by
    unfold ledT at h
    split at h
    · cases h
    · rename_i hl
      cases e : ms.find? (fun x => decide (x.tag = nm)) with
      | none => rw [e] at h; cases h
      | some x =>
        rw [e] at h
        dsimp only at h
        have hx := List.mem_of_find?_eq_some e
        split at h
        · rename_i hb
          cases h
          have := (O.base x hx).2
          refine ⟨due_len _ _, Sh.mono (sh_due hs) ?_, by omega⟩
          have : ws.length ≤ 4 := by omega
          exact Nat.le_trans (Nat.mul_le_mul_right _ this) (by decide)
        · obtain ⟨a, b, c⟩ := run_g (led_g O n) x.rounds ws (l - 1) (fun r hr c hc => (O.cl x hx r hr).2 c hc) hn hs h
          exact ⟨a, b.mono (by decide), by omega⟩⟩
end GT
namespace J
open PySem PySem.Spec
open PyProof.Rows L2
section
variable {w : World} {P : Program} {K : PySem.W.Frag} {base : Heap} {mg : Str → Option Value}
theorem tag_ok {p : G.Pu} (hp : p.ok) : (G.tag p).2.ok := by
  obtain ⟨_, _, h1⟩ := G.draw_ok (m := 4) hp (by decide)
  unfold G.tag
  dsimp only
  split
  · exact (G.pick_ok h1 (by decide)).2
  · obtain ⟨_, _, h2⟩ := G.draw_ok (m := 26) h1 (by decide)
    obtain ⟨_, _, h3⟩ := G.draw_ok (m := 8) h2 (by decide)
    exact (G.run_ok (R := fun _ _ => True) _ _ (fun b hb q hq => ⟨trivial, (G.pick_ok hq (by decide)).2⟩) h3).2
noncomputable abbrev nLT : List Str := ["_law_purse_here", "_law_signs", "_law_first", "_law_k"]
theorem scLTag : FnScope nLT ["_law_purse_here"] (defScope sLTag) := ⟨rfl, rfl, rfl, by decide +kernel, rfl, by decide +kernel, by decide +kernel⟩
noncomputable def cnTag : Con := fun rs μ r μ' => ∃ (k : Nat) (p : G.Pu), rs = [.ptr k] ∧ (μ[k]? = some p.ds ∧ p.ok) ∧ r = Ss (G.tag p).1 ∧ μ' = μ.set k (G.tag p).2.ds
theorem cTag (T : Bt mg) (C1 : CDraw P w K mg base) (C2 : CPick P w K mg base) (D : Df K mg "_law_tag" sLTag) : Cal P w K mg base "_law_tag" 3 ["_law_purse_here"] cnTag := by
  refine D.cal scLTag (fun _ _ _ _ _ _ us hl => len1 us hl fun _ => rfl) (by decide) (fun rs μ r μ' h => by obtain ⟨_, _, _, _, _, rfl⟩ := h; simp) fun f cdv A outer s H E hr rs μ r μ' hC => ?_
  obtain ⟨k, p, rfl, ⟨hk, hp⟩, rfl, rfl⟩ := hC
  obtain ⟨a0, a1, hp1⟩ := G.draw_ok (m := 4) hp (by decide)
  have hk1 := at_set (es := (G.draw 4 p).2.ds) hk
  refine ST.ifR (tEq (EV.draw C1 hr (nm 0) EV.int hk hp) EV.int) (fun hb => ?_) (fun hb => ?_)
  · have hb' : (G.draw 4 p).1 = 0 := eq_of_beq hb
    have e : G.tag p = G.pick Str.empty G.words (G.draw 4 p).2 := by
      unfold G.tag
      exact if_pos hb'
    rw [e]
    refine ST.retP (EV.pickS C2 hr (nm 0) (EV.eq (EV.split EV.str EV.str (by decide +kernel) (sz2 (by decide))) ?_) hk1 hp1 (by decide) (by decide)) rfl ?_
    · rw [words_split]
    · rw [List.set_set]
      exact take_set
  · have hb' : ¬ (G.draw 4 p).1 = 0 := fun z => by
      have : ((G.draw 4 p).1 == 0) = false := hb
      rw [z] at this
      cases this
    obtain ⟨b0, b1, hp2⟩ := G.draw_ok (m := 26) hp1 (by decide)
    obtain ⟨c0, c1, hp3⟩ := G.draw_ok (m := 8) hp2 (by decide)
    have e : G.tag p = (⟨(G.nth 0 G.signs (G.draw 26 (G.draw 4 p).2).1 :: (G.many (G.pick 0 G.signs) (G.draw 8 (G.draw 26 (G.draw 4 p).2).2).1.toNat (G.draw 8 (G.draw 26 (G.draw 4 p).2).2).2).1).toArray⟩, (G.many (G.pick 0 G.signs) (G.draw 8 (G.draw 26 (G.draw 4 p).2).2).1.toNat (G.draw 8 (G.draw 26 (G.draw 4 p).2).2).2).2) := by
      unfold G.tag
      exact if_neg hb'
    rw [e]
    generalize hq1 : (G.draw 4 p).2 = q1 at *
    generalize hf : (G.draw 26 q1).1 = fi at *
    generalize hq2 : (G.draw 26 q1).2 = q2 at *
    generalize hn : (G.draw 8 q2).1 = n at *
    generalize hq3 : (G.draw 8 q2).2 = q3 at *
    have hl : (M.letters ++ M.digits).length ≤ 100000 := by decide
    have hfi : (M.letters ++ M.digits).cps.toList[fi.toNat]? = some (G.nth 0 G.signs fi) := G.nth_some b0 (Int.lt_of_lt_of_le b1 (by decide))
    refine ST.set (i := 1) (EV.eq EV.str (congrArg Ss signs_eq)) scLTag.nd rfl (Or.inr rfl) ?_
    refine ST.set (i := 2) (ixS (nm 1) (EV.drawE C1 hf hq2 hr (nm 0) EV.int hk1 hp1) (sz (by omega)) (by have := at_nat hfi; rwa [show ((fi.toNat : Nat) : Int) = fi by omega] at this)) scLTag.nd rfl (Or.inl rfl) ?_
    have hk2 := at_set (es := q2.ds) hk1
    have hk3 := at_set (es := q3.ds) hk2
    refine ST.retP (oAddS (nm 2) (EV.join (ys := (G.many (G.pick 0 G.signs) n.toNat q3).1.map fun c => ⟨#[c]⟩) EV.str (EV.eq (LCV.evf (own := [("_law_k", 3)]) (LCV.run (p := q3) (bs := List.range n.toNat) (fun (i : Nat) => PyData.int (0 + (i : Int))) (fun c => .str ⟨#[c]⟩) (fun _ => G.pick 0 G.signs) (IV.rng1 (EV.drawE C1 hn hq3 hr (nm 0) EV.int hk2 hp2) (by omega) (by omega) T.range) (set_same hk3) hp3 (fun b hb q hq => (G.pick_ok hq (by decide)).2) (fun b hb q hq => ?_) (by simp; omega)) rfl scLTag.nd (blkOk_by (N := nLT) (sc := defScope sLTag) (by decide +kernel))).ev ?_) ?_) ?_) ?_ ?_
    · have hkq : (((((μ.set k q1.ds).set k q2.ds).set k q3.ds).set k q.ds))[k]? = some q.ds := at_set hk3
      have e1 := pick_map (d := 0) (d' := PyData.none) (fun c => PyData.str ⟨#[c]⟩) hq (l := G.signs) (by decide)
      refine ⟨_, fun _ _ _ _ _ => GV.name (i := 3) scLTag.nd rfl (Or.inl rfl) (by simp), fun _ _ _ _ _ => ?_⟩
      refine EV.call C2 hr (AV.cons (nm 0) (AV.cons (nm 1) AV.nil)) ⟨k, q, _, _, rfl, ⟨hkq, hq, .inr ⟨_, rfl, rfl, hl⟩, by decide, by decide⟩, ?_, ?_⟩
      · rw [signs_str, e1]
      · rw [signs_str, e1]
        exact sset.symm
    · rw [List.map_map]
      rfl
    · have hlen := G.run_len (fun (_ : Nat) => G.pick 0 G.signs) (List.range n.toNat) q3
      have hs : ∀ l : List Nat, ((l.map fun c => (⟨#[c]⟩ : Str)).map (·.length)).sum = l.length := by
        intro l
        induction l with
        | nil => rfl
        | cons c l ih =>
          rw [List.map_cons, List.map_cons, List.sum_cons, ih, List.length_cons]
          show 1 + l.length = l.length + 1
          omega
      rw [hs, List.length_map, hlen, List.length_range]
      have : ((("" : String) : Str)).length = 0 := by decide
      rw [this]
      omega
    · have := congrArg Str.length (join_signs (G.nth 0 G.signs fi) (G.many (G.pick 0 G.signs) n.toNat q3).1)
      rw [strLen_append] at this
      have hlen := G.run_len (fun (_ : Nat) => G.pick 0 G.signs) (List.range n.toNat) q3
      rw [this, SX.S_len, List.length_cons, hlen, List.length_range]
      exact sz (by omega)
    · exact congrArg Ss (join_signs _ _)
    · rw [List.set_set, List.set_set, List.set_set]
      exact take_set
end
end J
namespace J
open PySem PySem.Spec
open PyProof.Rows L2
end J
namespace J
open PySem PySem.Spec
open PyProof.Rows L2
section
variable {w : World} {P : Program} {K : PySem.W.Frag} {base : Heap} {mg : Str → Option Value}
noncomputable def goalP (g : Str × Int) : PyData := .tuple [.str g.1, .int g.2]
theorem goal_ok {p : G.Pu} (hp : p.ok) : (G.goalD p).2.ok := by
  obtain ⟨_, _, h1⟩ := G.draw_ok (m := 4) hp (by decide)
  unfold G.goalD
  dsimp only
  split
  · exact h1
  · exact (G.draw_ok h1 (by decide)).2.2
theorem scLGoal : FnScope ["_law_purse_here", "_law_way"] ["_law_purse_here"] (defScope sLGoal) := ⟨rfl, rfl, rfl, by decide +kernel, rfl, by decide +kernel, by decide +kernel⟩
noncomputable def cnGoal : Con := fun rs μ r μ' => ∃ (k : Nat) (p : G.Pu), rs = [.ptr k] ∧ (μ[k]? = some p.ds ∧ p.ok) ∧ r = .dat (goalP (G.goalD p).1) ∧ μ' = μ.set k (G.goalD p).2.ds
theorem cGoal (T : Bt mg) (C1 : CDraw P w K mg base) (D : Df K mg "_law_goal" sLGoal) : Cal P w K mg base "_law_goal" 2 ["_law_purse_here"] cnGoal := by
  refine D.cal scLGoal (fun _ _ _ _ _ _ us hl => len1 us hl fun _ => rfl) (by decide) (fun rs μ r μ' h => by obtain ⟨_, _, _, _, _, rfl⟩ := h; simp) fun f cdv A outer s H E hr rs μ r μ' hC => ?_
  obtain ⟨k, p, rfl, ⟨hk, hp⟩, rfl, rfl⟩ := hC
  obtain ⟨a0, a1, hp1⟩ := G.draw_ok (m := 4) hp (by decide)
  have hk1 := at_set (es := (G.draw 4 p).2.ds) hk
  refine ST.set (i := 1) (EV.draw C1 hr (nm 0) EV.int hk hp) scLGoal.nd rfl (Or.inl rfl) ?_
  refine ST.ifR (tLt (nm 1) EV.int) (fun hb => ?_) (fun hb => ?_)
  · have hb' := of_decide_eq_true hb
    have e : G.goalD p = ((G.nth Str.empty ["all", "before"] (G.draw 4 p).1, 0), (G.draw 4 p).2) := by
      unfold G.goalD
      exact if_pos hb'
    rw [e]
    have hx := G.nth_some (d := Str.empty) (l := ["all", "before"]) a0 hb'
    have hx2 : atI [PyData.str "all", PyData.str "before"] (G.draw 4 p).1 = some (.str (G.nth Str.empty ["all", "before"] (G.draw 4 p).1)) := by
      have h2 : ([("all" : Str), "before"].map PyData.str)[(G.draw 4 p).1.toNat]? = some (.str (G.nth Str.empty ["all", "before"] (G.draw 4 p).1)) := by
        rw [List.getElem?_map, hx]
        rfl
      have := at_nat h2
      rwa [show (((G.draw 4 p).1.toNat : Nat) : Int) = (G.draw 4 p).1 by omega] at this
    exact ST.retP (EV.tup (ds := [.str (G.nth Str.empty ["all", "before"] (G.draw 4 p).1), .int 0]) (AV.cons (ixL (EV.lst (ds := [.str "all", .str "before"]) (AV.cons EV.str (AV.cons EV.str AV.nil))) (nm 1) hx2) (AV.cons EV.int AV.nil))) rfl take_set
  · have hb' := of_decide_eq_false hb
    have e : G.goalD p = ((("last" : Str), 1 + (G.draw 4 (G.draw 4 p).2).1), (G.draw 4 (G.draw 4 p).2).2) := by
      unfold G.goalD
      exact if_neg hb'
    rw [e]
    refine ST.retP (EV.tup (ds := [.str "last", .int (1 + (G.draw 4 (G.draw 4 p).2).1)]) (AV.cons EV.str (AV.cons (oAdd EV.int (EV.draw C1 hr (nm 0) EV.int hk1 hp1)) AV.nil))) rfl ?_
    rw [sset]
    exact take_set
end
end J
namespace J
open PySem PySem.Spec
open PyProof.Rows L2
theorem pig : ∀ (xs ys : List Str), xs.Nodup → (∀ x ∈ xs, x ∈ ys) → xs.length ≤ ys.length
  | [], ys, _, _ => Nat.zero_le _
  | x :: xs, ys, hn, h => by
    have hx := h x List.mem_cons_self
    have h1 := pig xs (ys.erase x) (List.nodup_cons.mp hn).2 fun z hz => by
      have hne : z ≠ x := fun e => (List.nodup_cons.mp hn).1 (e ▸ hz)
      exact (List.mem_erase_of_ne hne).mpr (h z (List.mem_cons_of_mem _ hz))
    have h2 := List.length_erase_of_mem hx
    have h3 : 0 < ys.length := List.length_pos_of_mem hx
    simp only [List.length_cons]
    omega
theorem spare_left {found : List Str} (h : found.length < 5) : ∃ s r, G.spares.filter (fun s => decide (s ∉ found)) = s :: r := by
  cases q : G.spares.filter (fun s => decide (s ∉ found)) with
  | cons s r => exact ⟨s, r, rfl⟩
  | nil =>
    exfalso
    have h2 := pig G.spares found (by decide +kernel) fun x hx => by
      have := List.filter_eq_nil_iff.mp q x hx
      simpa using this
    have : G.spares.length = 5 := rfl
    omega
theorem tags_len (p : G.Pu) : ∀ n, (G.tags p n).1.length = n
  | 0 => rfl
  | n + 1 => by
    show ((G.tags p n).1 ++ [_]).length = n + 1
    rw [List.length_append, tags_len p n]
    rfl
theorem tags_ok {p : G.Pu} (hp : p.ok) : ∀ n, (G.tags p n).2.ok
  | 0 => hp
  | n + 1 => tag_ok (tags_ok hp n)
section
variable {w : World} {P : Program} {K : PySem.W.Frag} {base : Heap} {mg : Str → Option Value}
noncomputable abbrev nLTs : List Str := ["_law_purse_here", "_law_many", "_law_found", "_law_k", "_law_tag_here", "_law_spare"]
theorem scLTags : FnScope nLTs ["_law_purse_here", "_law_many"] (defScope sLTags) := ⟨rfl, rfl, rfl, by decide +kernel, rfl, by decide +kernel, by decide +kernel⟩
noncomputable def cnTags : Con := fun rs μ r μ' => ∃ (k n : Nat) (p : G.Pu), rs = [.ptr k, Ii (n : Int)] ∧ (μ[k]? = some p.ds ∧ p.ok ∧ n ≤ 5) ∧ r = Ls ((G.tags p n).1.map .str) ∧ μ' = μ.set k (G.tags p n).2.ds
theorem cTags (T : Bt mg) (C1 : Cal P w K mg base "_law_tag" 3 ["_law_purse_here"] cnTag) (D : Df K mg "_law_tags" sLTags) : Cal P w K mg base "_law_tags" 4 ["_law_purse_here", "_law_many"] cnTags := by
  refine D.cal scLTags (fun _ _ _ _ _ _ us hl => len2 us hl fun _ _ => rfl) (by decide) (fun rs μ r μ' h => by obtain ⟨_, _, _, _, _, _, rfl⟩ := h; simp) fun f cdv A outer s H E hr rs μ r μ' hC => ?_
  obtain ⟨k, n, p, rfl, ⟨hk, hp, hn⟩, rfl, rfl⟩ := hC
  have hkl := (List.getElem?_eq_some_iff.mp hk).1
  have hml : ∀ x, (μ.set k x).length = μ.length := fun x => List.length_set
  refine ST.cell (i := 2) (EVF.lst (ds := []) AV.nil) scLTags.nd rfl (Or.inr rfl) ?_
  refine ST.for_ (is := [3]) (IV.rng1 (nm 1) (by omega) (by omega) T.range) (fun i ρ ν => (∃ a b c, ρ = [some (.ptr k), some (Ii (n : Int)), some (.ptr μ.length), a, b, c]) ∧ ν = μ.set k (G.tags p i).2.ds ++ [(G.tags p i).1.map .str]) ⟨⟨none, none, none, rfl⟩, by rw [show (G.tags p 0).2 = p from rfl, ← set_same hk]; rfl⟩ (fun i d ρ ν hd hI => ?_) (fun ρ ν hI => ?_)
  · obtain ⟨⟨a, b, c, rfl⟩, rfl⟩ := hI
    have hi : i < n := by
      have := (List.getElem?_eq_some_iff.mp hd).1
      rw [rngD_len] at this
      omega
    have hq := tags_ok hp i
    have hfl := tags_len p i
    generalize hqq : (G.tags p i).2 = q at *
    generalize hff : (G.tags p i).1 = fs at *
    have ht : G.tags p (i + 1) = (fs ++ [G.freshTag fs (G.tag q).1], (G.tag q).2) := by
      rw [← hqq, ← hff]
      rfl
    refine ⟨_, GV.name (i := 3) scLTags.nd rfl (Or.inl rfl) (by simp), ?_⟩
    have g1 : (μ.set k q.ds ++ [fs.map PyData.str])[k]? = some q.ds := by rw [ap_get (by rw [hml]; exact hkl)]; exact at_set hk
    refine ST.set (i := 4) (r := Ss (G.tag q).1) (μ1 := μ.set k (G.tag q).2.ds ++ [fs.map PyData.str]) (EV.call C1 hr (AV.cons (nm 0) AV.nil) ⟨k, q, rfl, ⟨g1, hq⟩, rfl, by rw [ap_set (by rw [hml]; exact hkl), sset]⟩) scLTags.nd rfl (Or.inl rfl) ?_
    have gl : (μ.set k (G.tag q).2.ds ++ [fs.map PyData.str])[μ.length]? = some (fs.map .str) := by
      have := at_last (μ := μ.set k (G.tag q).2.ds) (x := fs.map PyData.str) (rest := [])
      rwa [hml] at this
    have gs : ∀ y, (μ.set k (G.tag q).2.ds ++ [fs.map PyData.str]).set μ.length y = μ.set k (G.tag q).2.ds ++ [y] := fun y => by
      have := set_last (μ := μ.set k (G.tag q).2.ds) (x := fs.map PyData.str) (y := y) (rest := [])
      rwa [hml] at this
    refine ST.iff (tInC (nm 4) (nm 2) gl rfl (strs_flat _)) (fun hb => ?_) (fun hb => ?_)
    · rw [inD_strs] at hb
      have hb' : (G.tag q).1 ∈ fs := of_decide_eq_true hb
      obtain ⟨s0, r0, hs0⟩ := spare_left (found := fs) (by omega)
      have hft : G.freshTag fs (G.tag q).1 = s0 := by
        unfold G.freshTag
        rw [if_pos hb', hs0]
        rfl
      refine ST.set (i := 4) (r := Ss s0) (μ1 := μ.set k (G.tag q).2.ds ++ [fs.map PyData.str]) (ixL (ds := (G.spares.filter fun s => decide (s ∉ fs)).map .str) (LCV.evf (own := [("_law_spare", 5)]) (LCV.mk (ds := G.spares.map .str) (IV.lst (EV.lst (ds := [.str "a", .str "b", .str "up2", .str "d", .str "e"]) (AV.cons EV.str (AV.cons EV.str (AV.cons EV.str (AV.cons EV.str (AV.cons EV.str AV.nil))))))) (fun i acc ν => acc = ((G.spares.take i).filter fun s => decide (s ∉ fs)).map .str ∧ ν = μ.set k (G.tag q).2.ds ++ [fs.map PyData.str]) ⟨rfl, rfl⟩ (fun i d acc ν hd hI => ?_) (fun acc ν hI => ?_) (by decide)) rfl scLTags.nd (blkOk_by (N := nLTs) (sc := defScope sLTags) (by decide +kernel))).ev EV.int (by rw [hs0]; exact at_nat (i := 0) rfl)) scLTags.nd rfl (Or.inl rfl) (ST.nil ?_)
      · obtain ⟨rfl, rfl⟩ := hI
        rw [List.getElem?_map] at hd
        cases e0 : G.spares[i]? with
        | none => rw [e0] at hd; cases hd
        | some x =>
          rw [e0] at hd
          cases hd
          refine ⟨_, fun _ _ _ _ _ => GV.name (i := 5) scLTags.nd rfl (Or.inl rfl) (by simp), !inD (.str x) (fs.map .str), _, .inr ⟨_, rfl, fun _ _ _ _ _ => tNiC (nm 5) (nm 2) gl rfl (strs_flat _)⟩, ?_⟩
          rw [inD_strs, List.take_succ, e0]
          by_cases hx : x ∈ fs
          · rw [decide_eq_true hx]
            refine iteF ⟨?_, rfl⟩
            simp [hx]
          · rw [decide_eq_false hx]
            refine iteT ⟨.str x, _, fun _ _ _ _ _ => nm 5, ?_, rfl⟩
            simp [hx]
      · obtain ⟨rfl, rfl⟩ := hI
        exact ⟨rfl, rfl⟩
      · refine ST.expr (EV.app (nm 2) (nm 4) gl (by rw [List.length_map]; omega)) (ST.nil ⟨⟨_, _, _, rfl⟩, ?_⟩)
        rw [gs, ht, hft]
        simp
    · rw [inD_strs] at hb
      have hb' : ¬ (G.tag q).1 ∈ fs := of_decide_eq_false hb
      have hft : G.freshTag fs (G.tag q).1 = (G.tag q).1 := if_neg hb'
      refine ST.nil (ST.expr (EV.app (nm 2) (nm 4) gl (by rw [List.length_map]; omega)) (ST.nil ⟨⟨_, _, _, rfl⟩, ?_⟩))
      rw [gs, ht, hft]
      simp
  · obtain ⟨⟨a, b, c, rfl⟩, rfl⟩ := hI
    rw [rngD_len, show ((n : Int)).toNat = n by omega]
    refine ST.retP (nm 2) ?_ ?_
    · show (if μ.length < μ.length then _ else Ent.dat (PyData.list (List.getD _ _ _))) = _
      rw [if_neg (by omega)]
      have := at_last (μ := μ.set k (G.tags p n).2.ds) (x := (G.tags p n).1.map PyData.str) (rest := [])
      rw [hml] at this
      rw [List.getD_eq_getElem?_getD, this]
      rfl
    · rw [List.take_append_of_le_length (by rw [hml]; exact Nat.le_refl _)]
      exact take_set
end
end J
namespace J
open PySem PySem.Spec
open PyProof.Rows L2
theorem era_map {α β : Type} (f : α → β) : ∀ (xs : List α) (j : Nat), (xs.map f).eraseIdx j = (xs.eraseIdx j).map f
  | [], _ => rfl
  | _ :: _, 0 => rfl
  | x :: xs, j + 1 => congrArg (f x :: ·) (era_map f xs j)
theorem era_len {α : Type} : ∀ (xs : List α) (j : Nat), j < xs.length → (xs.eraseIdx j).length + 1 = xs.length
  | x :: xs, 0, _ => rfl
  | x :: xs, j + 1, h => by
    have := era_len xs j (by simpa using h)
    simp only [List.eraseIdx_cons_succ, List.length_cons]
    omega
structure OvOk (b n : Nat) (s : List Int × List Int × G.Pu) : Prop where
  ok : s.2.2.ok
  len : s.1.length + n = b
  fl : s.2.1.length = n
  nd : (s.2.1 ++ s.1).Nodup
  inn : ∀ x ∈ s.2.1 ++ s.1, 0 ≤ x ∧ x < b
theorem nodup_move {α : Type} {l : List α} {f : List α} {j : Nat} {x : α} (h : l[j]? = some x) (nd : (f ++ l).Nodup) : ((f ++ [x]) ++ l.eraseIdx j).Nodup ∧ ∀ y ∈ (f ++ [x]) ++ l.eraseIdx j, y ∈ f ++ l := by
  obtain ⟨hj, e⟩ := List.getElem?_eq_some_iff.mp h
  have hp : (l.eraseIdx j).Sublist l := List.eraseIdx_sublist l j
  have hx : x ∈ l := List.mem_iff_getElem?.mpr ⟨j, h⟩
  obtain ⟨n1, n2, n3⟩ := List.nodup_append.mp nd
  have hnx : x ∉ l.eraseIdx j := by
    intro z
    obtain ⟨i, hi⟩ := List.mem_iff_getElem?.mp z
    rw [List.getElem?_eraseIdx] at hi
    split at hi
    · rename_i h1
      obtain ⟨hi1, e1⟩ := List.getElem?_eq_some_iff.mp hi
      exact List.pairwise_iff_getElem.mp n2 i j hi1 hj h1 (e1.trans e.symm)
    · rename_i h1
      obtain ⟨hi1, e1⟩ := List.getElem?_eq_some_iff.mp hi
      exact List.pairwise_iff_getElem.mp n2 j (i + 1) hj hi1 (by omega) (e.trans e1.symm)
  refine ⟨List.nodup_append.mpr ⟨List.nodup_append.mpr ⟨n1, by simp, fun a ha b hb => ?_⟩, n2.sublist hp, fun a ha b hb => ?_⟩, fun y hy => ?_⟩
  · have : b = x := by simpa using hb
    rw [this]
    exact n3 a ha x hx
  · rcases List.mem_append.mp ha with h1 | h1
    · exact n3 a h1 b (hp.subset hb)
    · have : a = x := by simpa using h1
      rw [this]
      exact fun z => hnx (z ▸ hb)
  · rcases List.mem_append.mp hy with h1 | h1
    · rcases List.mem_append.mp h1 with h2 | h2
      · exact List.mem_append_left _ h2
      · have : y = x := by simpa using h2
        rw [this]
        exact List.mem_append_right _ hx
    · exact List.mem_append_right _ (hp.subset h1)
theorem oversN_ok {b : Nat} {p : G.Pu} (hp : p.ok) : ∀ n, n ≤ b → OvOk b n (G.oversN b p n)
  | 0, _ => by
    refine ⟨hp, by simp [G.oversN], rfl, ?_, ?_⟩
    · show (([] : List Int) ++ (List.range b).map fun (i : Nat) => (0 + (i : Int))).Nodup
      rw [List.nil_append]
      refine List.pairwise_map.mpr (List.nodup_range.imp fun {x y} h => ?_)
      omega
    · intro x hx
      have : x ∈ (List.range b).map fun (i : Nat) => (0 + (i : Int)) := by simpa [G.oversN] using hx
      obtain ⟨i, hi, rfl⟩ := List.mem_map.mp this
      have := List.mem_range.mp hi
      omega
  | n + 1, h => by
    obtain ⟨h1, h2, h3, h4, h5⟩ := oversN_ok (b := b) hp n (by omega)
    have hl : 0 < (G.oversN b p n).1.length := by omega
    obtain ⟨d0, d1, d2⟩ := G.draw_ok (m := (G.oversN b p n).1.length) h1 (by omega)
    have hx := G.nth_some (d := (0 : Int)) d0 d1
    obtain ⟨m1, m2⟩ := nodup_move hx h4
    refine ⟨d2, ?_, ?_, m1, fun x hx => h5 x (m2 x hx)⟩
    · have := era_len (G.oversN b p n).1 (G.draw (G.oversN b p n).1.length (G.oversN b p n).2.2).1.toNat (by omega)
      show ((G.oversN b p n).1.eraseIdx _).length + (n + 1) = b
      omega
    · show ((G.oversN b p n).2.1 ++ [_]).length = n + 1
      rw [List.length_append, h3]
      rfl
section
variable {w : World} {P : Program} {K : PySem.W.Frag} {base : Heap} {mg : Str → Option Value}
noncomputable abbrev nLO : List Str := ["_law_purse_here", "_law_by", "_law_free", "_law_found", "_law_k"]
theorem scLOvers : FnScope nLO ["_law_purse_here", "_law_by"] (defScope sLOvers) := ⟨rfl, rfl, rfl, by decide +kernel, rfl, by decide +kernel, by decide +kernel⟩
noncomputable def cnOvers : Con := fun rs μ r μ' => ∃ (k b : Nat) (p : G.Pu), rs = [.ptr k, Ii (b : Int)] ∧ (μ[k]? = some p.ds ∧ p.ok ∧ 1 ≤ b ∧ b ≤ 9) ∧ r = Ls ((G.overs b p).1.map .int) ∧ μ' = μ.set k (G.overs b p).2.ds
theorem st_kg {μ : Sto} {k : Nat} {a f r : List PyData} (h : k < μ.length) : ((μ.set k a ++ [f]) ++ [r])[k]? = some a := by
  rw [List.append_assoc, List.getElem?_append_left (by simpa using h)]
  simp [h]
theorem st_ks {μ : Sto} {k : Nat} {a x f r : List PyData} (h : k < μ.length) : ((μ.set k a ++ [f]) ++ [r]).set k x = (μ.set k x ++ [f]) ++ [r] := by
  rw [List.append_assoc, List.set_append_left _ _ (by simpa using h), List.set_set, List.append_assoc]
theorem st_mg {μ : Sto} {k : Nat} {a f r : List PyData} : ((μ.set k a ++ [f]) ++ [r])[μ.length]? = some f := by
  have h : (μ.set k a).length = μ.length := List.length_set
  rw [List.append_assoc, List.getElem?_append_right (by omega)]
  simp
theorem st_ms {μ : Sto} {k : Nat} {a x f r : List PyData} : ((μ.set k a ++ [f]) ++ [r]).set μ.length x = (μ.set k a ++ [x]) ++ [r] := by
  have h : (μ.set k a).length = μ.length := List.length_set
  rw [List.append_assoc, List.set_append_right _ _ (by omega), List.append_assoc]
  simp
theorem st_ng {μ : Sto} {k : Nat} {a f r : List PyData} : ((μ.set k a ++ [f]) ++ [r])[μ.length + 1]? = some r := by
  rw [List.getElem?_append_right (by simp)]
  simp
theorem st_ns {μ : Sto} {k : Nat} {a x f r : List PyData} : ((μ.set k a ++ [f]) ++ [r]).set (μ.length + 1) x = (μ.set k a ++ [f]) ++ [x] := by
  rw [List.set_append_right _ _ (by simp)]
  simp
theorem cOvers (T : Bt mg) (C1 : CDraw P w K mg base) (D : Df K mg "_law_overs" sLOvers) : Cal P w K mg base "_law_overs" 2 ["_law_purse_here", "_law_by"] cnOvers := by
  refine D.cal scLOvers (fun _ _ _ _ _ _ us hl => len2 us hl fun _ _ => rfl) (by decide) (fun rs μ r μ' h => by obtain ⟨_, _, _, _, _, _, rfl⟩ := h; simp) fun f cdv A outer s H E hr rs μ r μ' hC => ?_
  obtain ⟨k, b, p, rfl, ⟨hk, hp, hb1, hb2⟩, rfl, rfl⟩ := hC
  have hkl := (List.getElem?_eq_some_iff.mp hk).1
  unfold G.overs
  dsimp only
  obtain ⟨d0, d1, hp1⟩ := G.draw_ok (m := (b : Int)) hp (by omega)
  generalize hn : (G.draw (b : Int) p).1 = n at *
  generalize hq : (G.draw (b : Int) p).2 = q at *
  have e0 : (([] : List PyData)) = ([] : List Int).map .int := rfl
  refine ST.par2 (i := 2) (j := 3) (EVF.lstRg T.list T.range rfl (nm 1) (by omega) (by omega)) (EVF.lst (ds := []) AV.nil) scLOvers.nd rfl rfl (by decide) rfl rfl ?_ rfl
  have hk' : μ = μ.set k p.ds := set_same hk
  rw [hk']
  have hlen : (μ.set k p.ds).length = μ.length := List.length_set
  rw [hlen]
  have e1 : (((b : Int)).toNat) = b := by omega
  rw [e1]
  refine ST.for_ (is := [4]) (ds := rngD 0 (1 + n).toNat) (IV.rng1 (oAdd EV.int (EV.drawE C1 hn hq hr (nm 0) (nm 1) (st_kg hkl) hp (by omega) (by omega))) (by omega) (by omega) T.range) (fun i ρ ν => (∃ a, ρ = [some (.ptr k), some (Ii (b : Int)), some (.ptr (μ.length + 1)), some (.ptr μ.length), a]) ∧ ν = (μ.set k (G.oversN b q i).2.2.ds ++ [(G.oversN b q i).2.1.map .int]) ++ [(G.oversN b q i).1.map .int]) ⟨⟨none, rfl⟩, ?_⟩ (fun i d ρ ν hd hI => ?_) (fun ρ ν hI => ?_)
  · rw [(st_ks hkl)]
    show _ = (μ.set k q.ds ++ [[]]) ++ [((List.range b).map fun (i : Nat) => (0 + (i : Int))).map PyData.int]
    rw [List.map_map]
    rfl
  · obtain ⟨⟨a, rfl⟩, rfl⟩ := hI
    have hi : i < (1 + n).toNat := by
      have := (List.getElem?_eq_some_iff.mp hd).1
      rwa [rngD_len] at this
    obtain ⟨h1, h2, h3, h4, h5⟩ := oversN_ok (b := b) hp1 i (by omega)
    have ht : G.oversN b q (i + 1) = ((G.oversN b q i).1.eraseIdx (G.draw (G.oversN b q i).1.length (G.oversN b q i).2.2).1.toNat, (G.oversN b q i).2.1 ++ [G.nth 0 (G.oversN b q i).1 (G.draw (G.oversN b q i).1.length (G.oversN b q i).2.2).1], (G.draw (G.oversN b q i).1.length (G.oversN b q i).2.2).2) := rfl
    have hx0 : 0 < (G.oversN b q i).1.length := by omega
    rw [ht]
    clear ht
    generalize (G.oversN b q i).1 = fr at *
    generalize (G.oversN b q i).2.1 = fo at *
    generalize (G.oversN b q i).2.2 = u at *
    obtain ⟨x0, x1, hu⟩ := G.draw_ok (m := (fr.length : Int)) h1 (by omega)
    have hx := G.nth_some (d := (0 : Int)) x0 x1
    generalize hj : (G.draw (fr.length : Int) u).1 = j at *
    generalize hv : (G.draw (fr.length : Int) u).2 = v at *
    obtain ⟨jn, rfl⟩ : ∃ jn : Nat, j = (jn : Int) := ⟨j.toNat, by omega⟩
    have ejn : ((jn : Int)).toNat = jn := by omega
    rw [ejn] at hx ⊢
    refine ⟨_, GV.name (i := 4) scLOvers.nd rfl (Or.inl rfl) (by simp), ?_⟩
    refine ST.expr (r := Nn) (μ1 := (μ.set k v.ds ++ [(fo ++ [G.nth 0 fr (jn : Int)]).map .int]) ++ [(fr.eraseIdx jn).map .int]) (EV.st (EV.app (d := .int (G.nth 0 fr (jn : Int))) (ds := fo.map .int) (nm 3) (EV.st (μ' := (μ.set k v.ds ++ [fo.map .int]) ++ [(fr.eraseIdx jn).map .int]) (EV.pop (ds := fr.map .int) (jn := jn) (nm 2) (EV.st (EV.drawE C1 hj hv hr (nm 0) (EV.eq (bLenC T (nm 2) st_ng) (by rw [List.length_map])) (st_kg hkl) h1 (by omega) (by omega)) (st_ks hkl)) st_ng (by rw [List.getElem?_map, hx]; rfl) (by rw [List.length_map]; omega) (by rw [List.length_map]; exact seqI (by omega))) (by rw [st_ns, era_map])) st_mg (by rw [List.length_map]; omega)) (by rw [st_ms, List.map_append]; rfl)) (ST.nil ⟨⟨_, rfl⟩, rfl⟩)
  · obtain ⟨⟨a, rfl⟩, rfl⟩ := hI
    rw [rngD_len]
    generalize (1 + n).toNat = t
    refine ST.retP (nm 3) ?_ ?_
    · show (if μ.length < μ.length then _ else Ent.dat (PyData.list (List.getD _ _ _))) = _
      rw [if_neg (by omega), List.getD_eq_getElem?_getD, st_mg]
      rfl
    · rw [List.append_assoc, List.take_append_of_le_length (by rw [List.length_set]; exact Nat.le_refl _), sset]
      exact take_set
end
end J
namespace J
open PySem PySem.Spec
open PyProof.Rows L2
theorem overs_ok {b : Nat} {p : G.Pu} (hp : p.ok) (h1 : 1 ≤ b) : (G.overs b p).2.ok ∧ (G.overs b p).1.length ≤ b ∧ 1 ≤ (G.overs b p).1.length ∧ (G.overs b p).1.Nodup ∧ ∀ x ∈ (G.overs b p).1, 0 ≤ x ∧ x < b := by
  obtain ⟨d0, d1, d2⟩ := G.draw_ok (m := (b : Int)) hp (by omega)
  obtain ⟨o1, o2, o3, o4, o5⟩ := oversN_ok (b := b) d2 (1 + (G.draw (b : Int) p).1).toNat (by omega)
  refine ⟨o1, ?_, ?_, (List.nodup_append.mp o4).1, fun x hx => o5 x (List.mem_append_left _ hx)⟩
  · show (G.oversN b (G.draw (b : Int) p).2 (1 + (G.draw (b : Int) p).1).toNat).2.1.length ≤ b
    omega
  · show 1 ≤ (G.oversN b (G.draw (b : Int) p).2 (1 + (G.draw (b : Int) p).1).toNat).2.1.length
    omega
noncomputable def NamesOk (l : List Str) : Prop := ∀ s ∈ l, M.nameOk s = true
noncomputable abbrev COvers (P : Program) (w : World) (K : PySem.W.Frag) (mg : Str → Option Value) (base : Heap) := Cal P w K mg base "_law_overs" 2 ["_law_purse_here", "_law_by"] cnOvers
end J
namespace J
open PySem PySem.Spec
open PyProof.Rows L2
end J
namespace J
open PySem PySem.Spec
open PyProof.Rows L2
theorem name_of {c : Nat} {cs : List Nat} (h1 : c ∈ M.letters.cps.toList) (h2 : ∀ x ∈ cs, x ∈ G.signs) (h3 : cs.length ≤ 7) : M.nameOk ⟨(c :: cs).toArray⟩ = true := by
  have hl : (⟨(c :: cs).toArray⟩ : Str).length = cs.length + 1 := SX.S_len (c :: cs)
  have hm : ∀ x, x ∈ G.signs → M.signOk x = true := fun x hx => decide_eq_true hx
  have hc : M.signOk c = true := by
    refine hm c ?_
    have : ∀ x ∈ M.letters.cps.toList, x ∈ G.signs := by decide +kernel
    exact this c h1
  unfold M.nameOk
  rw [hl]
  have e : (⟨(c :: cs).toArray⟩ : Str).cps.toList = c :: cs := rfl
  rw [e]
  dsimp only
  rw [Bool.and_eq_true, Bool.and_eq_true, Bool.and_eq_true, decide_eq_true_eq, decide_eq_true_eq, decide_eq_true_eq, List.all_eq_true]
  refine ⟨⟨by omega, by omega⟩, h1, fun x hx => ?_⟩
  rcases List.mem_cons.mp hx with rfl | hx
  · exact hc
  · exact hm x (h2 x hx)
theorem tag_name {p : G.Pu} (hp : p.ok) : M.nameOk (G.tag p).1 = true := by
  obtain ⟨_, _, h1⟩ := G.draw_ok (m := 4) hp (by decide)
  unfold G.tag
  dsimp only
  split
  · have := (G.pick_ok (d := Str.empty) (l := G.words) h1 (by decide)).1
    have hw : ∀ s ∈ G.words, M.nameOk s = true := by decide +kernel
    exact hw _ this
  · obtain ⟨b0, b1, h2⟩ := G.draw_ok (m := 26) h1 (by decide)
    obtain ⟨c0, c1, h3⟩ := G.draw_ok (m := 8) h2 (by decide)
    refine name_of ?_ (fun x hx => ?_) ?_
    · have hw : ∀ i : _root_.Fin 26, G.nth 0 G.signs (i.val : Int) ∈ M.letters.cps.toList := by decide +kernel
      have := hw ⟨(G.draw 26 (G.draw 4 p).2).1.toNat, by omega⟩
      rwa [show (((G.draw 26 (G.draw 4 p).2).1.toNat : Nat) : Int) = (G.draw 26 (G.draw 4 p).2).1 by omega] at this
    · obtain ⟨b, _, hb⟩ := (G.run_ok (R := fun _ y => y ∈ G.signs) _ _ (fun b hb q hq => G.pick_ok hq (by decide)) h3).1 x hx
      exact hb
    · rw [G.run_len, List.length_range]
      omega
theorem tags_names {p : G.Pu} (hp : p.ok) : ∀ n, n ≤ 5 → NamesOk (G.tags p n).1
  | 0, _ => fun s hs => by cases hs
  | n + 1, hn => by
    intro s hs
    have hs' : s ∈ (G.tags p n).1 ++ [G.freshTag (G.tags p n).1 (G.tag (G.tags p n).2).1] := hs
    rcases List.mem_append.mp hs' with h | h
    · exact tags_names hp n (by omega) s h
    · have : s = G.freshTag (G.tags p n).1 (G.tag (G.tags p n).2).1 := by simpa using h
      rw [this]
      unfold G.freshTag
      split
      · obtain ⟨x, r, hx⟩ := spare_left (found := (G.tags p n).1) (by rw [tags_len]; omega)
        rw [hx]
        have hm : x ∈ G.spares := (List.mem_filter.mp (hx ▸ List.mem_cons_self)).1
        have hw : ∀ s ∈ G.spares, M.nameOk s = true := by decide +kernel
        exact hw x hm
      · exact tag_name (tags_ok hp n)
end J
namespace J
open PySem PySem.Spec
open PyProof.Rows L2
theorem tags_nd {p : G.Pu} : ∀ n, n ≤ 5 → (G.tags p n).1.Nodup
  | 0, _ => List.nodup_nil
  | n + 1, hn => by
    have ih := tags_nd (p := p) n (by omega)
    show ((G.tags p n).1 ++ [G.freshTag (G.tags p n).1 (G.tag (G.tags p n).2).1]).Nodup
    refine List.nodup_append.mpr ⟨ih, by simp, fun a ha b hb => ?_⟩
    have : b = G.freshTag (G.tags p n).1 (G.tag (G.tags p n).2).1 := by simpa using hb
    rw [this]
    unfold G.freshTag
    split
    · obtain ⟨x, r, hx⟩ := spare_left (found := (G.tags p n).1) (by rw [tags_len]; omega)
      rw [hx]
      have hm := (List.mem_filter.mp (hx ▸ List.mem_cons_self : x ∈ G.spares.filter (fun s => decide (s ∉ (G.tags p n).1)))).2
      intro z
      have : x ∉ (G.tags p n).1 := by simpa using hm
      have z' : a = x := z
      exact this (z' ▸ ha)
    · rename_i h
      exact fun z => h (z ▸ ha)
theorem cut_from {l : List Str} {i : Nat} : M.cutL l (some ((i : Int) + 1)) none = l.drop (i + 1) := by
  unfold M.cutL
  have e : HT.sIx l.length 0 (some ((i : Int) + 1)) = min (i + 1) l.length := HT.sIx_nat l.length 0 (i + 1)
  rw [e, HT.sIx_none]
  by_cases h : i + 1 ≤ l.length
  · rw [Nat.min_eq_left h, List.take_of_length_le (by simp)]
  · rw [Nat.min_eq_right (by omega), List.drop_of_length_le (Nat.le_refl _), List.drop_of_length_le (by omega), List.take_nil]
end J
namespace G
open PySem J
structure PartOk (x : Part) : Prop where
  o : 0 ≤ x.over ∧ x.over ≤ 9
  b : 0 ≤ x.by_ ∧ x.by_ ≤ 9
  f : 0 ≤ x.far ∧ x.far ≤ 9
  w : x.word.length ≤ 8
  s : x.side.length ≤ 8
  t : x.tag.length ≤ 8
end G
namespace J
open PySem PySem.Spec
open PyProof.Rows L2
theorem ends_len {x : G.Part} (h : G.PartOk x) : (G.ends x).length = 6 := by
  unfold G.ends
  have e1 : (((" of " : String) : Str)).length = 4 := by decide +kernel
  rw [strLen_append, strLen_append, strI_len _ h.o.1 h.o.2, strI_len _ h.b.1 h.b.2, e1]
theorem clause_len {x : G.Part} (h : G.PartOk x) : (G.clause x).length ≤ 60 := by
  have he := ends_len h
  have h1 := h.w
  have h2 := h.s
  have h3 := h.t
  have h4 := strI_len _ h.f.1 h.f.2
  have e1 : ((("call " : String) : Str)).length = 5 := by decide +kernel
  have e2 : (((" on " : String) : Str)).length = 4 := by decide +kernel
  have e3 : ((("clear " : String) : Str)).length = 6 := by decide +kernel
  have e4 : (((" " : String) : Str)).length = 1 := by decide +kernel
  unfold G.clause
  split
  · rw [strLen_append, strLen_append, strLen_append]
    omega
  · split
    · rw [strLen_append]
      omega
    · rw [strLen_append, strLen_append, strLen_append, strLen_append, strLen_append, strLen_append]
      omega
theorem line_sum {r : List G.Part} (hl : r.length ≤ 9) (h : ∀ y ∈ r, G.PartOk y) : ((r.map G.clause).map (·.length)).sum + (r.map G.clause).length * (((("; " : String) : Str)).length) ≤ 600 := by
  have e1 : ((("; " : String) : Str)).length = 2 := by decide +kernel
  have h1 : ((r.map G.clause).map (·.length)).sum ≤ (r.map G.clause).length * 60 := sum_le _ _ _ fun x hx => by
    obtain ⟨y, hy, rfl⟩ := List.mem_map.mp hx
    exact clause_len (h y hy)
  rw [List.length_map] at h1 ⊢
  rw [e1]
  omega
theorem line_len {r : List G.Part} (hl : r.length ≤ 9) (h : ∀ y ∈ r, G.PartOk y) : (G.line r).length ≤ 600 := Nat.le_trans (join_le _ _) (line_sum hl h)
end J
namespace G
open PySem J
structure MateOk (x : Mate) : Prop where
  t : x.tag.length ≤ 8
  g : x.goal.1.length ≤ 8
  n : 0 ≤ x.goal.2 ∧ x.goal.2 ≤ 9
  b : 0 ≤ x.base ∧ x.base ≤ 9
  l : x.rounds.length ≤ 9
  r : ∀ r ∈ x.rounds, r.length ≤ 9 ∧ ∀ y ∈ r, PartOk y
end G
namespace J
open PySem PySem.Spec
open PyProof.Rows L2
section
variable {w : World} {P : Program} {K : PySem.W.Frag} {base : Heap} {mg : Str → Option Value}
noncomputable abbrev nLCl : List Str := ["_law_part", "_law_word", "_law_over", "_law_by", "_law_side", "_law_far", "_law_tag_here", "_law_ends"]
theorem scLClause : FnScope nLCl ["_law_part"] (defScope sLClause) := ⟨rfl, rfl, rfl, by decide +kernel, rfl, by decide +kernel, by decide +kernel⟩
noncomputable def cnClause : Con := fun rs μ r μ' => ∃ x : G.Part, rs = [.dat x.d] ∧ G.PartOk x ∧ r = Ss (G.clause x) ∧ μ' = μ
theorem cClause (T : Bt mg) (D : Df K mg "_law_clause" sLClause) : Cal P w K mg base "_law_clause" 1 ["_law_part"] cnClause := by
  refine D.cal scLClause (fun _ _ _ _ _ _ us hl => len1 us hl fun _ => rfl) (by decide) (fun rs μ r μ' h => by obtain ⟨_, _, _, _, rfl⟩ := h; rfl) fun f cdv A outer s H E hr rs μ r μ' hC => ?_
  obtain ⟨x, rfl, hx, rfl, rfl⟩ := hC
  have he := ends_len hx
  have l1 := hx.w
  have l2 := hx.s
  have l3 := hx.t
  have l4 := strI_len _ hx.f.1 hx.f.2
  have l5 := strI_len _ hx.o.1 hx.o.2
  have l6 := strI_len _ hx.b.1 hx.b.2
  have e1 : ((("call " : String) : Str)).length = 5 := by decide +kernel
  have e2 : (((" on " : String) : Str)).length = 4 := by decide +kernel
  have e3 : ((("clear " : String) : Str)).length = 6 := by decide +kernel
  have e4 : (((" " : String) : Str)).length = 1 := by decide +kernel
  have e5 : (((" of " : String) : Str)).length = 4 := by decide +kernel
  have big : ∀ n : Nat, n ≤ 100 → n ≤ sizeLine := fun n h => sz (by omega)
  refine ST.asg (is := [1, 2, 3, 4, 5, 6]) (nm 0) (GV.tup (GsV.cons (GV.name (i := 1) scLClause.nd rfl (Or.inl rfl) (by simp)) (GsV.cons (GV.name (i := 2) scLClause.nd rfl (Or.inl rfl) (by simp)) (GsV.cons (GV.name (i := 3) scLClause.nd rfl (Or.inl rfl) (by simp)) (GsV.cons (GV.name (i := 4) scLClause.nd rfl (Or.inl rfl) (by simp)) (GsV.cons (GV.name (i := 5) scLClause.nd rfl (Or.inl rfl) (by simp)) (GsV.cons (GV.name (i := 6) scLClause.nd rfl (Or.inl rfl) (by simp)) GsV.nil))))))) ?_
  have lo : ((toString x.over : String) : Str).length = 1 := l5
  have lb : ((toString x.by_ : String) : Str).length = 1 := l6
  have lf : ((toString x.far : String) : Str).length = 1 := l4
  refine ST.set (i := 7) (r := Ss (G.ends x)) (oAddS (oAddS (bStr T (nm 2) (log_dig hx.o)) EV.str (big _ (by rw [l5, e5]; decide))) (bStr T (nm 3) (log_dig hx.b)) (big _ (by rw [strLen_append, l5, l6, e5]; decide))) scLClause.nd rfl (Or.inl rfl) ?_
  unfold G.clause
  refine ST.ifR (tEq (nm 1) EV.str) (fun hb => ?_) (fun hb => ?_)
  · have hb' : x.word = "call" := eq_of_beq hb
    rw [if_pos hb']
    refine ST.retP (oAddS (oAddS (oAddS EV.str (nm 6) (big _ (by omega))) EV.str (big _ (by rw [strLen_append]; omega))) (nm 7) (big _ (by rw [strLen_append, strLen_append]; omega))) rfl
  · have hb' : ¬ x.word = "call" := fun z => by
      have h0 : (x.word == ("call" : Str)) = false := hb
      rw [z] at h0
      exact absurd h0 (by decide)
    rw [if_neg hb']
    refine ST.retP (r' := Ss (if x.word = "clear" then "clear " ++ G.ends x else x.word ++ " " ++ G.ends x ++ " " ++ x.side ++ " " ++ M.strI x.far)) (EV.ifx (μ2 := μ') (tEq (nm 1) EV.str) (fun hc => ?_) (fun hc => ?_)) rfl
    · have hc' : x.word = "clear" := eq_of_beq hc
      rw [if_pos hc']
      exact oAddS EV.str (nm 7) (big _ (by omega))
    · have hc' : ¬ x.word = "clear" := fun z => by
        have h0 : (x.word == ("clear" : Str)) = false := hc
        rw [z] at h0
        exact absurd h0 (by decide)
      rw [if_neg hc']
      refine oAddS (oAddS (oAddS (oAddS (oAddS (oAddS (nm 1) EV.str (big _ ?_)) (nm 7) (big _ ?_)) EV.str (big _ ?_)) (nm 4) (big _ ?_)) EV.str (big _ ?_)) (bStr T (nm 5) (log_dig hx.f)) (big _ ?_) <;> (try simp only [strLen_append]) <;> omega
theorem scLLine : FnScope ["_law_parts", "_law_part"] ["_law_parts"] (defScope sLLine) := ⟨rfl, rfl, rfl, by decide +kernel, rfl, by decide +kernel, by decide +kernel⟩
noncomputable def cnLine : Con := fun rs μ r μ' => ∃ x : List G.Part, rs = [Ls (x.map G.Part.d)] ∧ (x.length ≤ 9 ∧ ∀ y ∈ x, G.PartOk y) ∧ r = Ss (G.line x) ∧ μ' = μ
theorem cLnT (T : Bt mg) (C1 : Cal P w K mg base "_law_clause" 1 ["_law_part"] cnClause) (D : Df K mg "_law_line" sLLine) : Cal P w K mg base "_law_line" 2 ["_law_parts"] cnLine := by
  refine D.cal scLLine (fun _ _ _ _ _ _ us hl => len1 us hl fun _ => rfl) (by decide) (fun rs μ r μ' h => by obtain ⟨_, _, _, _, rfl⟩ := h; rfl) fun f cdv A outer s H E hr rs μ r μ' hC => ?_
  obtain ⟨x, rfl, ⟨hl, hx⟩, rfl, rfl⟩ := hC
  have hs := line_sum hl hx
  refine ST.retP (EV.join (ys := x.map G.clause) EV.str (EV.eq (LCV.evf (own := [("_law_part", 1)]) (LCV.mapT (α := G.Part) G.Part.d (fun y => .str (G.clause y)) (IV.lst (nm 0)) (fun y hy => ?_) (by omega)) rfl scLLine.nd (blkOk_by (N := ["_law_parts", "_law_part"]) (sc := defScope sLLine) (by decide +kernel))).ev (congrArg Ls (by rw [List.map_map]; rfl))) (by omega)) rfl
  exact ⟨_, fun _ _ _ _ _ => GV.name (i := 1) scLLine.nd rfl (Or.inl rfl) (by simp), fun _ _ _ _ _ => EV.call C1 hr (AV.cons (nm 1) AV.nil) ⟨y, rfl, hx y hy, rfl, rfl⟩⟩
theorem scLAim : FnScope ["_law_goal_here"] ["_law_goal_here"] (defScope sLAim) := ⟨rfl, rfl, rfl, by decide +kernel, rfl, by decide +kernel, by decide +kernel⟩
noncomputable def cnAim : Con := fun rs μ r μ' => ∃ g : Str × Int, rs = [.dat (goalP g)] ∧ (g.1.length ≤ 8 ∧ 0 ≤ g.2 ∧ g.2 ≤ 9) ∧ r = Ss (G.aim g) ∧ μ' = μ
theorem cAim (T : Bt mg) (D : Df K mg "_law_aim" sLAim) : Cal P w K mg base "_law_aim" 1 ["_law_goal_here"] cnAim := by
  refine D.cal scLAim (fun _ _ _ _ _ _ us hl => len1 us hl fun _ => rfl) (by decide) (fun rs μ r μ' h => by obtain ⟨_, _, _, _, rfl⟩ := h; rfl) fun f cdv A outer s H E hr rs μ r μ' hC => ?_
  obtain ⟨g, rfl, ⟨h1, h2, h3⟩, rfl, rfl⟩ := hC
  have e4 : (((" " : String) : Str)).length = 1 := by decide +kernel
  have l4 := strI_len _ h2 h3
  unfold G.aim
  have a0 : ([PyData.str g.1, .int g.2])[0]? = some (.str g.1) := rfl
  have a1 : ([PyData.str g.1, .int g.2])[1]? = some (.int g.2) := rfl
  refine ST.retP (r' := Ss (if g.1 = "last" then g.1 ++ " " ++ M.strI g.2 else g.1)) (EV.ifx (μ2 := μ') (tEq (ixT (nm 0) EV.int (at_nat a0)) EV.str) (fun hc => ?_) (fun hc => ?_)) rfl
  · have hc' : g.1 = "last" := eq_of_beq hc
    rw [if_pos hc']
    exact oAddS (oAddS (ixT (nm 0) EV.int (at_nat a0)) EV.str (sz (by omega))) (bStr T (ixT (nm 0) EV.int (at_nat a1)) (log_dig ⟨h2, h3⟩)) (sz (by rw [strLen_append]; omega))
  · have hc' : ¬ g.1 = "last" := fun z => by
      have h0 : (g.1 == ("last" : Str)) = false := hc
      rw [z] at h0
      exact absurd h0 (by decide)
    rw [if_neg hc']
    exact ixT (nm 0) EV.int (at_nat a0)
end
end J
namespace J
open PySem PySem.Spec
open PyProof.Rows L2
section
variable {w : World} {P : Program} {K : PySem.W.Frag} {base : Heap} {mg : Str → Option Value}
noncomputable abbrev nLTo : List Str := ["_law_mates", "_law_parts", "_law_tag_here", "_law_goal_here", "_law_base", "_law_lines"]
theorem scLTold : FnScope nLTo ["_law_mates"] (defScope sLTold) := ⟨rfl, rfl, rfl, by decide +kernel, rfl, by decide +kernel, by decide +kernel⟩
noncomputable def cnTold : Con := fun rs μ r μ' => ∃ ms : List G.Mate, rs = [Ls (ms.map G.Mate.d)] ∧ (ms.length ≤ 9 ∧ ∀ x ∈ ms, G.MateOk x) ∧ r = Tp (ms.map G.told) ∧ μ' = μ
theorem cTold (T : Bt mg) (C1 : Cal P w K mg base "_law_aim" 1 ["_law_goal_here"] cnAim) (C2 : Cal P w K mg base "_law_line" 2 ["_law_parts"] cnLine) (D : Df K mg "_law_told" sLTold) : Cal P w K mg base "_law_told" 3 ["_law_mates"] cnTold := by
  refine D.cal scLTold (fun _ _ _ _ _ _ us hl => len1 us hl fun _ => rfl) (by decide) (fun rs μ r μ' h => by obtain ⟨_, _, _, _, rfl⟩ := h; rfl) fun f cdv A outer s H E hr rs μ r μ' hC => ?_
  obtain ⟨ms, rfl, ⟨hl, hm⟩, rfl, rfl⟩ := hC
  refine ST.retP (bTupL T (LCV.evf (own := [("_law_tag_here", 2), ("_law_goal_here", 3), ("_law_base", 4), ("_law_lines", 5)]) (LCV.mapT (α := G.Mate) G.Mate.d G.told (IV.lst (nm 0)) (fun x hx => ?_) (by omega)) rfl scLTold.nd (blkOk_by (N := nLTo) (sc := defScope sLTold) (by decide +kernel))).ev) rfl
  have ho := hm x hx
  have hk := ho.l
  refine ⟨_, fun _ _ _ _ _ => GV.tup (GsV.cons (GV.name (i := 2) scLTold.nd rfl (by first | exact Or.inl rfl | exact Or.inr rfl) (by simp)) (GsV.cons (GV.name (i := 3) scLTold.nd rfl (by first | exact Or.inl rfl | exact Or.inr rfl) (by simp)) (GsV.cons (GV.name (i := 4) scLTold.nd rfl (by first | exact Or.inl rfl | exact Or.inr rfl) (by simp)) (GsV.cons (GV.name (i := 5) scLTold.nd rfl (by first | exact Or.inl rfl | exact Or.inr rfl) (by simp)) GsV.nil)))), fun _ _ _ _ _ => ?_⟩
  refine EV.tup (ds := [.str x.tag, .str (G.aim x.goal), .int x.base, .tuple (x.rounds.map fun r => .str (G.line r))]) (AV.cons (nm 2) (AV.cons (EV.call C1 (hr.mono (by decide)) (AV.cons (nm 3) AV.nil) ⟨x.goal, rfl, ⟨ho.g, ho.n.1, ho.n.2⟩, rfl, rfl⟩) (AV.cons (nm 4) (AV.cons (bTupL T (LCV.evf (own := [("_law_parts", 1)]) (LCV.mapT (α := List G.Part) (fun r => .list (r.map G.Part.d)) (fun r => .str (G.line r)) (IV.lst (nm 5)) (fun r hrr => ?_) (by omega)) rfl scLTold.nd (blkOk_by (N := nLTo) (by rfl))).ev) AV.nil))))
  exact ⟨_, fun _ _ _ _ _ => GV.name (i := 1) scLTold.nd rfl (Or.inl rfl) (by simp), fun _ _ _ _ _ => EV.call C2 hr (AV.cons (nm 1) AV.nil) ⟨r, rfl, ho.r r hrr, rfl, rfl⟩⟩
end
end J
namespace N
open PySem J L2
structure RoundGood (lower tags : List Str) (r : List G.Part) : Prop where
  len : 1 ≤ r.length ∧ r.length ≤ 3
  good : ∀ x ∈ r, PartGood x
  by_ : ∃ b, ∀ x ∈ r, x.by_ = b
  nd : (r.map (·.over)).Nodup
  calls : (∀ x ∈ r, x.word = "call" ∧ x.tag ∈ (if x.by_ = 1 then lower else tags)) ∨ (∀ x ∈ r, x.word ≠ "call")
theorem line_split {r : List G.Part} (hne : r ≠ []) (h : ∀ x ∈ r, PartGood x) : Txt.split (G.line r) "; " = r.map G.clause := by
  unfold G.line
  refine split_join (c := 59) (r := [32]) (by decide +kernel) (by decide +kernel) (by simpa using hne) fun y hy => ?_
  obtain ⟨x, hx, rfl⟩ := List.mem_map.mp hy
  exact clause_free (h x hx)
theorem share_no {x y : G.Part} {b : Int} (hx : x.by_ = b) (hy : y.by_ = b) (hn : x.over ≠ y.over) : M.share (clauseOf x) (clauseOf y) = false := by
  show (rngD 0 (x.by_ * y.by_).toNat).any (M.hit x.over x.by_ y.over y.by_) = false
  rw [List.any_eq_false]
  intro d hd z
  unfold rngD at hd
  obtain ⟨k, _, rfl⟩ := List.mem_map.mp hd
  have z' : (((0 + (k : Int)) % x.by_ == x.over) && ((0 + (k : Int)) % y.by_ == y.over)) = true := z
  rw [Bool.and_eq_true, hx, hy] at z'
  exact hn ((eq_of_beq z'.1).symm.trans (eq_of_beq z'.2))
theorem cut_to {cs : List PyData} {i : Nat} : cutD cs none (some (i : Int)) = cs.take (min i cs.length) := by
  unfold cutD
  rw [HT.sIx_nat, HT.sIx_none, List.drop_zero, Nat.sub_zero]
theorem fit_yes {lower tags : List Str} {r : List G.Part} (h : RoundGood lower tags r) : M.fit (r.map clauseOf) = true := by
  have hc : ∀ x : G.Part, M.isCall (clauseOf x) = (x.word == "call") := fun x => rfl
  have e1 : (((r.map clauseOf).map M.isCall).any id && !(((r.map clauseOf).map M.isCall).all id)) = false := by
    rw [List.map_map]
    rcases h.calls with hk | hk
    · have : (r.map (M.isCall ∘ clauseOf)).all id = true := by
        rw [List.all_map, List.all_eq_true]
        intro x hx
        show M.isCall (clauseOf x) = true
        rw [hc, (hk x hx).1]
        exact beq_self_eq_true _
      rw [this]
      simp
    · have : (r.map (M.isCall ∘ clauseOf)).any id = false := by
        rw [List.any_map, List.any_eq_false]
        intro x hx z
        have z' : M.isCall (clauseOf x) = true := z
        rw [hc] at z'
        exact hk x hx (eq_of_beq z')
      rw [this]
      simp
  unfold M.fit
  rw [if_neg (by rw [e1]; exact Bool.false_ne_true), Bool.not_eq_true', List.any_eq_false]
  intro v hv z
  obtain ⟨d, hd, hv2⟩ := List.mem_flatMap.mp hv
  obtain ⟨o, ho, rfl⟩ := List.mem_map.mp hv2
  obtain ⟨i, c, hci, rfl⟩ := enD_mem hd
  have z' : M.share c o = true := z
  have e0 : ((0 + i : Nat) : Int) = (i : Int) := by omega
  have ho' : o ∈ cutD (r.map clauseOf) none (some ((0 + i : Nat) : Int)) := ho
  rw [e0, cut_to] at ho'
  obtain ⟨j, hj, ej⟩ := List.mem_take_iff_getElem.mp ho'
  rw [List.getElem?_map] at hci
  cases q : r[i]? with
  | none => rw [q] at hci; cases hci
  | some x =>
    rw [q] at hci
    have ec : clauseOf x = c := by simpa using hci
    have hjl : j < r.length := by
      have : j < min (min i (r.map clauseOf).length) (r.map clauseOf).length := hj
      rw [List.length_map] at this
      omega
    have hji : j < i := by
      have : j < min (min i (r.map clauseOf).length) (r.map clauseOf).length := hj
      omega
    rw [List.getElem_map] at ej
    obtain ⟨hil, ei⟩ := List.getElem?_eq_some_iff.mp q
    obtain ⟨b, hb⟩ := h.by_
    rw [← ec, ← ej, share_no (hb _ (List.mem_iff_getElem?.mpr ⟨i, q⟩)) (hb _ (List.getElem_mem hjl)) ?_] at z'
    · cases z'
    · have hp := List.pairwise_iff_getElem.mp h.nd j i (by simpa using hjl) (by simpa using hil) hji
      rw [List.getElem_map, List.getElem_map] at hp
      rw [← ei]
      exact fun w => hp w.symm
theorem round_read {lower tags : List Str} {r : List G.Part} (h : RoundGood lower tags r) : M.readRound (.str (G.line r)) = .tuple (r.map clauseOf) := by
  have hne : r ≠ [] := fun z => by have := h.len.1; rw [z] at this; simp at this
  have e : (Txt.split (G.line r) "; ").map M.readClause = r.map clauseOf := by
    rw [line_split hne h.good, List.map_map]
    exact List.map_congr_left fun x hx => clause_read (h.good x hx)
  unfold M.readRound
  dsimp only
  rw [e, if_neg (by rw [List.length_map]; have := h.len; omega), if_neg, if_pos (fit_yes h)]
  rw [List.any_map]
  intro z
  obtain ⟨x, _, hx⟩ := List.any_eq_true.mp z
  cases hx
theorem cut_all {l : List Str} : M.cutL l (some 0) none = l := by
  unfold M.cutL
  have e : HT.sIx l.length 0 (some 0) = min 0 l.length := HT.sIx_nat l.length 0 0
  rw [e, HT.sIx_none]
  simp
theorem round_stands {tags : List Str} {i : Nat} {r : List G.Part} (h : RoundGood (tags.drop (i + 1)) tags r) : M.canStand (.str (G.line r)) tags (i : Int) = true := by
  unfold M.canStand
  rw [round_read h]
  dsimp only
  rw [List.all_map, List.all_eq_true]
  intro x hx
  show (!(x.word == "call" && !inD (more x) ((M.cutL tags (some (if x.by_ == 1 then (i : Int) + 1 else 0)) none).map .str))) = true
  rcases h.calls with hk | hk
  · obtain ⟨h1, h2⟩ := hk x hx
    have em : more x = .str x.tag := if_pos h1
    rw [em, inD_strs]
    have : x.tag ∈ M.cutL tags (some (if x.by_ == 1 then (i : Int) + 1 else 0)) none := by
      by_cases hb : x.by_ = 1
      · rw [if_pos hb] at h2
        rw [if_pos (by rw [hb]; rfl), cut_from]
        exact h2
      · rw [if_neg hb] at h2
        rw [if_neg (by simpa using hb), cut_all]
        exact h2
    rw [decide_eq_true this]
    simp
  · have : (x.word == "call") = false := beq_eq_false_iff_ne.mpr (hk x hx)
    rw [this]
    rfl
end N
namespace N
open PySem J L2
theorem part_ok {x : G.Part} (h : PartGood x) : G.PartOk x := by
  have e0 : (Str.empty).length = 0 := by decide +kernel
  have e1 : ((("call" : String) : Str)).length = 4 := by decide +kernel
  have e2 : ((("clear" : String) : Str)).length = 5 := by decide +kernel
  have e3 : ((("join" : String) : Str)).length = 4 := by decide +kernel
  have e4 : ((("take" : String) : Str)).length = 4 := by decide +kernel
  have e5 : ((("left" : String) : Str)).length = 4 := by decide +kernel
  have e6 : ((("right" : String) : Str)).length = 5 := by decide +kernel
  have hb := h.b
  have ho := h.o
  rcases h.k with ⟨a, b, c, d⟩ | ⟨a, b, c, d⟩ | ⟨a, b, c, d, e⟩
  · have := (M.name_signs b).2.1
    exact ⟨by omega, by omega, by omega, by rw [a]; omega, by rw [d]; omega, by omega⟩
  · exact ⟨by omega, by omega, by omega, by rw [a]; omega, by rw [c]; omega, by rw [d]; omega⟩
  · refine ⟨by omega, by omega, by omega, ?_, ?_, by rw [e]; omega⟩
    · rcases a with a | a <;> rw [a] <;> omega
    · rcases b with b | b <;> rw [b] <;> omega
end N
namespace N
open PySem J L2
theorem goal_good {p : G.Pu} (hp : p.ok) : M.isGoal (.str (G.aim (G.goalD p).1)) = true ∧ (G.goalD p).1.1.length ≤ 8 ∧ 0 ≤ (G.goalD p).1.2 ∧ (G.goalD p).1.2 ≤ 9 := by
  obtain ⟨a0, a1, hp1⟩ := G.draw_ok (m := 4) hp (by decide)
  obtain ⟨b0, b1, _⟩ := G.draw_ok (m := 4) hp1 (by decide)
  unfold G.goalD
  dsimp only
  split
  · rename_i h
    have hw : ∀ i : _root_.Fin 2, M.isGoal (.str (G.aim (G.nth Str.empty ["all", "before"] (i.val : Int), 0))) = true ∧ (G.nth Str.empty ["all", "before"] (i.val : Int)).length ≤ 8 := by decide +kernel
    have := hw ⟨(G.draw 4 p).1.toNat, by omega⟩
    rw [show (((G.draw 4 p).1.toNat : Nat) : Int) = (G.draw 4 p).1 by omega] at this
    exact ⟨this.1, this.2, (by decide : (0 : Int) ≤ 0), (by decide : (0 : Int) ≤ 9)⟩
  · have hw : ∀ i : _root_.Fin 4, M.isGoal (.str (G.aim ("last", 1 + (i.val : Int)))) = true := by decide +kernel
    have := hw ⟨(G.draw 4 (G.draw 4 p).2).1.toNat, by omega⟩
    rw [show (((G.draw 4 (G.draw 4 p).2).1.toNat : Nat) : Int) = (G.draw 4 (G.draw 4 p).2).1 by omega] at this
    refine ⟨this, ?_, ?_, ?_⟩
    · show ((("last" : String) : Str)).length ≤ 8
      decide +kernel
    · dsimp only
      omega
    · dsimp only
      omega
end N
namespace N
open PySem J L2
structure MateGood (tags : List Str) (i : Nat) (x : G.Mate) : Prop where
  tag : tags[i]? = some x.tag
  goal : M.isGoal (.str (G.aim x.goal)) = true ∧ x.goal.1.length ≤ 8 ∧ 0 ≤ x.goal.2 ∧ x.goal.2 ≤ 9
  base : 1 ≤ x.base ∧ x.base ≤ 4
  many : 1 ≤ x.rounds.length ∧ x.rounds.length ≤ 5
  rounds : ∀ r ∈ x.rounds, RoundGood (tags.drop (i + 1)) tags r
structure MatesGood (tags : List Str) (ms : List G.Mate) : Prop where
  len : ms.length = tags.length
  l14 : 1 ≤ tags.length ∧ tags.length ≤ 4
  names : NamesOk tags
  nd : tags.Nodup
  each : ∀ (i : Nat) (x : G.Mate), ms[i]? = some x → MateGood tags i x
theorem mate_shape {tags : List Str} {i : Nat} {x : G.Mate} (h : MateGood tags i x) (hn : NamesOk tags) : G.MateOk x := by
  have h1 := hn _ (List.mem_iff_getElem?.mpr ⟨i, h.tag⟩)
  have h2 := h.many
  have h3 := h.base
  refine ⟨(M.name_signs h1).2.1, h.goal.2.1, h.goal.2.2, by omega, by omega, fun r hr => ?_⟩
  have g := h.rounds r hr
  exact ⟨by have := g.len; omega, fun y hy => part_ok (g.good y hy)⟩
theorem names_eq {tags : List Str} {ms : List G.Mate} (h : MatesGood tags ms) : (ms.map G.told).map M.nameOf = tags := by
  rw [List.map_map]
  refine List.ext_getElem? fun i => ?_
  rw [List.getElem?_map]
  cases q : ms[i]? with
  | none =>
    have : ms.length ≤ i := List.getElem?_eq_none_iff.mp q
    rw [h.len] at this
    simp [this]
  | some x =>
    rw [(h.each i x q).tag]
    rfl
theorem mates_ok {tags : List Str} {ms : List G.Mate} (h : MatesGood tags ms) : ms.length ≤ 9 ∧ ∀ x ∈ ms, G.MateOk x := by
  have h1 := h.len
  have h2 := h.l14
  refine ⟨by omega, fun x hx => ?_⟩
  obtain ⟨i, hi⟩ := List.mem_iff_getElem?.mp hx
  exact mate_shape (h.each i x hi) h.names
theorem told_good {tags : List Str} {ms : List G.Mate} (h : MatesGood tags ms) : M.Good (ms.map G.told) := by
  have h1 := h.len
  have h2 := h.l14
  have h3 := mates_ok h
  refine ⟨by rw [List.length_map]; omega, by rw [List.length_map]; omega, fun p hp => ?_, by rw [names_eq h]; exact h.nd, fun i p hp t ht => ?_⟩
  · obtain ⟨x, hx, rfl⟩ := List.mem_map.mp hp
    obtain ⟨i, hi⟩ := List.mem_iff_getElem?.mp hx
    have g := h.each i x hi
    have ok := h3.2 x hx
    refine ⟨?_, fun n g' b r e => ?_⟩
    · show (M.baseOk (.int x.base) && (M.isName (.str x.tag) && (M.isGoal (.str (G.aim x.goal)) && M.areRounds (.tuple (x.rounds.map fun r => .str (G.line r)))))) = true
      have a1 : M.baseOk (.int x.base) = true := by
        show (decide (1 ≤ x.base) && decide (x.base ≤ 4)) = true
        rw [Bool.and_eq_true, decide_eq_true_eq, decide_eq_true_eq]
        exact g.base
      have a2 : M.isName (.str x.tag) = true := h.names _ (List.mem_iff_getElem?.mpr ⟨i, g.tag⟩)
      have a3 : M.areRounds (.tuple (x.rounds.map fun r => .str (G.line r))) = true := by
        show ((decide (1 ≤ ((x.rounds.map fun r => PyData.str (G.line r)).length : Int)) && decide (((x.rounds.map fun r => PyData.str (G.line r)).length : Int) ≤ 5)) && (x.rounds.map fun r => PyData.str (G.line r)).all fun y => !isNone (M.readRound y)) = true
        have := g.many
        rw [Bool.and_eq_true, Bool.and_eq_true, decide_eq_true_eq, decide_eq_true_eq, List.length_map, List.all_map, List.all_eq_true]
        refine ⟨by omega, fun r hr => ?_⟩
        show (!isNone (M.readRound (.str (G.line r)))) = true
        rw [round_read (g.rounds r hr)]
        rfl
      rw [a1, a2, g.goal.1, a3]
      rfl
    · have e' : PyData.tuple [.str x.tag, .str (G.aim x.goal), .int x.base, .tuple (x.rounds.map fun r => .str (G.line r))] = .tuple [n, g', b, r] := e
      simp only [PyData.tuple.injEq, List.cons.injEq] at e'
      obtain ⟨rfl, rfl, rfl, rfl, _⟩ := e'
      refine ⟨fun s hs => ?_, fun ds hds y hy s hs => ?_⟩
      · cases hs
        have := ok.t
        omega
      · cases hds
        obtain ⟨r, hr, rfl⟩ := List.mem_map.mp hy
        cases hs
        have := line_len (ok.r r hr).1 (ok.r r hr).2
        omega
  · rw [names_eq h]
    rw [List.getElem?_map] at hp
    cases q : ms[i]? with
    | none => rw [q] at hp; cases hp
    | some x =>
      rw [q] at hp
      cases hp
      have g := h.each i x q
      have ht' : t ∈ x.rounds.map fun r => PyData.str (G.line r) := ht
      obtain ⟨r, hr, rfl⟩ := List.mem_map.mp ht'
      exact round_stands (g.rounds r hr)
end N
namespace GT
open PySem J L2 M GL
noncomputable abbrev BX := Nat × Bool
noncomputable abbrev LW := Str → List Str → BX → List Str × BX
noncomputable def clsW (L : LW) (c : G.Part) (ws : List Str) (st : BX) : List Str × BX :=
  if c.word = "call" ∧ sp c ws.length ≠ [] then L c.tag (pickS c ws) st else ((sp c ws.length).map (valS c ws), st)
noncomputable def rndW (L : LW) : List G.Part → List Str → List Str → BX → List Str × BX
  | [], _, acc, st => (acc, (st.1, st.2 || long acc))
  | c :: cs, ws, acc, st => rndW L cs ws (putL (sp c ws.length) (clsW L c ws st).1 acc) (clsW L c ws st).2
noncomputable def runW (L : LW) : List (List G.Part) → List Str → BX → List Str × BX
  | [], ws, st => (ws, st)
  | r :: rs, ws, st => if st.2 = true then (ws, st) else runW L rs (rndW L r ws ws st).1 (rndW L r ws ws st).2
noncomputable def noteW (ws : List Str) (st : BX) : List Str × BX := (ws, (st.1, st.2 || long ws))
noncomputable def ledW (ms : List G.Mate) : Nat → LW
  | 0, _, ws, st => (ws, (st.1, true))
  | n + 1, nm, ws, st => match ms.find? (fun x => decide (x.tag = nm)) with
    | none => (ws, (st.1, true))
    | some x => if (ws.length : Int) ≤ x.base then noteW (dueS x.goal ws) (st.1 + 1, st.2 || decide (1000 < st.1 + 1)) else runW (ledW ms n) x.rounds ws (st.1 + 1, st.2 || decide (1000 < st.1 + 1))
structure LGW (L : LW) : Prop where
  h : ∀ (nm : Str) (ws : List Str) (st : BX), Sh 1000 ws → ws.length ≤ 12 → (L nm ws st).1.length = ws.length ∧ Sh 4000 (L nm ws st).1
  stk : ∀ (nm : Str) (ws : List Str) (st : BX), st.2 = true → (L nm ws st).2.2 = true
theorem clsW_g {L : LW} (hL : LGW L) {c : G.Part} (hc : N.PartGood c) {ws : List Str} (hn : ws.length ≤ 12) (hs : Sh 1000 ws) (st : BX) : (clsW L c ws st).1.length = (sp c ws.length).length ∧ Sh 4000 (clsW L c ws st).1 := by
  unfold clsW
  split
  · obtain ⟨a, b⟩ := hL.h c.tag (pickS c ws) st (sh_pick hs c) (by rw [pick_len]; exact Nat.le_trans (sp_f hc hn).le hn)
    exact ⟨by rw [a, pick_len], b⟩
  · refine ⟨by rw [List.length_map], fun s hs' => ?_⟩
    obtain ⟨p, _, rfl⟩ := List.mem_map.mp hs'
    exact Nat.le_trans (sh_val hs c p) (by decide)
theorem clsW_stk {L : LW} (hL : LGW L) (c : G.Part) (ws : List Str) (st : BX) (h : st.2 = true) : (clsW L c ws st).2.2 = true := by
  unfold clsW
  split
  · exact hL.stk _ _ _ h
  · exact h
theorem long_no {ws : List Str} (h : ¬ long ws = true) : Sh 1000 ws := fun s hs => by
  unfold long at h
  rw [List.any_eq_true] at h
  exact Decidable.byContradiction fun z => h ⟨s, hs, decide_eq_true (by omega)⟩
theorem long_sh {ws : List Str} (h : Sh 1000 ws) : long ws = false := by
  unfold long
  rw [List.any_eq_false]
  intro s hs
  have := h s hs
  simp
  omega
theorem rndW_g {L : LW} (hL : LGW L) : ∀ (cs : List G.Part) {ws : List Str} (acc : List Str) (st : BX), (∀ c ∈ cs, N.PartGood c) → ws.length ≤ 12 → Sh 1000 ws → acc.length = ws.length → Sh 4000 acc → (rndW L cs ws acc st).1.length = ws.length ∧ Sh 4000 (rndW L cs ws acc st).1 ∧ ((rndW L cs ws acc st).2.2 = false → Sh 1000 (rndW L cs ws acc st).1)
  | [], ws, acc, st, _, _, _, ha, h4 => ⟨ha, h4, fun h => by
    have h' : (st.2 || long acc) = false := h
    rw [Bool.or_eq_false_iff] at h'
    exact long_no (show ¬ long acc = true by rw [h'.2]; decide)⟩
  | c :: cs, ws, acc, st, hc, hn, hs, ha, h4 => by
    obtain ⟨g1, g2⟩ := clsW_g hL (hc c List.mem_cons_self) hn hs st
    exact rndW_g hL cs _ _ (fun x hx => hc x (List.mem_cons_of_mem _ hx)) hn hs (by rw [putL_len]; exact ha) (sh_put g2 h4)
theorem rndW_stk {L : LW} (hL : LGW L) : ∀ (cs : List G.Part) (ws acc : List Str) (st : BX), st.2 = true → (rndW L cs ws acc st).2.2 = true
  | [], ws, acc, st, h => by
    show (st.2 || long acc) = true
    rw [h]
    rfl
  | c :: cs, ws, acc, st, h => rndW_stk hL cs ws _ _ (clsW_stk hL c ws st h)
theorem runW_g {L : LW} (hL : LGW L) : ∀ (rs : List (List G.Part)) (ws : List Str) (st : BX), (∀ r ∈ rs, ∀ c ∈ r, N.PartGood c) → ws.length ≤ 12 → Sh 4000 ws → (st.2 = false → Sh 1000 ws) → (runW L rs ws st).1.length = ws.length ∧ Sh 4000 (runW L rs ws st).1
  | [], ws, st, _, _, hs, _ => ⟨rfl, hs⟩
  | r :: rs, ws, st, hc, hn, h4, hs => by
    unfold runW
    split
    · exact ⟨rfl, h4⟩
    · rename_i hf
      have hf' : st.2 = false := by
        cases z : st.2
        · rfl
        · exact absurd z hf
      obtain ⟨a, b, c⟩ := rndW_g hL r ws st (hc r List.mem_cons_self) hn (hs hf') rfl h4
      obtain ⟨d, e⟩ := runW_g hL rs _ (rndW L r ws ws st).2 (fun x hx => hc x (List.mem_cons_of_mem _ hx)) (by rw [a]; exact hn) b c
      exact ⟨by rw [d, a], e⟩
theorem runW_stk {L : LW} : ∀ (rs : List (List G.Part)) (ws : List Str) (st : BX), st.2 = true → (runW L rs ws st).2.2 = true
  | [], ws, st, h => h
  | r :: rs, ws, st, h => by
    unfold runW
    rw [if_pos h]
    exact h
theorem ledW_g {ms : List G.Mate} (O : Ok ms) : ∀ n : Nat, LGW (ledW ms n)
  | 0 => ⟨fun nm ws st hs _ => ⟨rfl, hs.mono (by decide)⟩, fun nm ws st h => rfl⟩
  | n + 1 => ⟨fun nm ws st hs hn => by
    unfold ledW
    cases e : ms.find? (fun x => decide (x.tag = nm)) with
    | none => exact ⟨rfl, hs.mono (by decide)⟩
    | some x =>
      have hx := List.mem_of_find?_eq_some e
      dsimp only
      split
      · rename_i hb
        have := (O.base x hx).2
        refine ⟨due_len _ _, Sh.mono (sh_due hs) ?_⟩
        have : ws.length ≤ 4 := by omega
        exact Nat.le_trans (Nat.mul_le_mul_right _ this) (by decide)
      · exact runW_g (ledW_g O n) x.rounds ws _ (fun r hr c hc => (O.cl x hx r hr).2 c hc) hn (hs.mono (by decide)) fun _ => hs, fun nm ws st h => by
    unfold ledW
    cases e : ms.find? (fun x => decide (x.tag = nm)) with
    | none => rfl
    | some x =>
      dsimp only
      split
      · show ((st.2 || _) || _) = true
        rw [h]
        rfl
      · exact runW_stk _ _ _ (by show (st.2 || _) = true; rw [h]; rfl)⟩
structure RL (L : LT) (M : LW) : Prop where
  g : LG L
  w : LGW M
  yes : ∀ (nm : Str) (ws : List Str) (l : Nat) (out : List Str) (l' : Nat), Sh 1000 ws → ws.length ≤ 12 → l ≤ 1000 → L nm ws l = some (out, l') → M nm ws (1000 - l, false) = (out, (1000 - l', long out))
  no : ∀ (nm : Str) (ws : List Str) (l : Nat), Sh 1000 ws → ws.length ≤ 12 → l ≤ 1000 → L nm ws l = none → (M nm ws (1000 - l, false)).2.2 = true
noncomputable def Dj (r : List G.Part) : Prop := r.Pairwise fun c d => ∀ n, n ≤ 12 → ∀ p ∈ sp c n, p ∉ sp d n
theorem cls_yes {L : LT} {M : LW} (R : RL L M) {c : G.Part} (hc : N.PartGood c) {ws : List Str} (hn : ws.length ≤ 12) (hs : Sh 1000 ws) {l l' : Nat} (hl : l ≤ 1000) {out : List Str} (h : clsT L c ws l = some (out, l')) : (clsW M c ws (1000 - l, false)).1 = out ∧ (clsW M c ws (1000 - l, false)).2.1 = 1000 - l' ∧ ((clsW M c ws (1000 - l, false)).2.2 = true → long out = true) ∧ l' ≤ l := by
  unfold clsT at h
  unfold clsW
  split at h
  · rename_i hw
    split at h
    · rename_i e
      cases h
      rw [if_neg (fun z => z.2 e), e]
      exact ⟨rfl, rfl, (fun z => by cases z), Nat.le_refl _⟩
    · rename_i e
      have h12 : (pickS c ws).length ≤ 12 := by rw [pick_len]; exact Nat.le_trans (sp_f hc hn).le hn
      rw [if_pos ⟨hw, e⟩, R.yes _ _ _ _ _ (sh_pick hs c) h12 hl h]
      obtain ⟨_, _, z⟩ := R.g.h _ _ _ _ _ (sh_pick hs c) h12 h
      exact ⟨rfl, rfl, fun z => z, Nat.le_of_lt z⟩
  · rename_i hw
    cases h
    rw [if_neg (fun z => hw z.1)]
    exact ⟨rfl, rfl, (fun z => by cases z), Nat.le_refl _⟩
theorem cls_no {L : LT} {M : LW} (R : RL L M) {c : G.Part} (hc : N.PartGood c) {ws : List Str} (hn : ws.length ≤ 12) (hs : Sh 1000 ws) {l : Nat} (hl : l ≤ 1000) (h : clsT L c ws l = none) : (clsW M c ws (1000 - l, false)).2.2 = true := by
  unfold clsT at h
  unfold clsW
  split at h
  · rename_i hw
    split at h
    · cases h
    · rename_i e
      have h12 : (pickS c ws).length ≤ 12 := by rw [pick_len]; exact Nat.le_trans (sp_f hc hn).le hn
      rw [if_pos ⟨hw, e⟩]
      exact R.no _ _ _ (sh_pick hs c) h12 hl h
  · cases h
theorem put_out {ps : List Nat} {vs acc : List Str} (hl : ps.length = vs.length) (nd : ps.Nodup) (hp : ∀ p ∈ ps, p < acc.length) {q : Nat} (h : q ∉ ps) : (putL ps vs acc)[q]? = acc[q]? := by
  rw [putL_get ps vs acc hl nd hp q]
  have : ps.idxOf? q = none := by rw [List.idxOf?_eq_none_iff]; exact h
  rw [this]
theorem put_in {ps : List Nat} {vs acc : List Str} (hl : ps.length = vs.length) (nd : ps.Nodup) (hp : ∀ p ∈ ps, p < acc.length) {s : Str} (hs : s ∈ vs) : ∃ q ∈ ps, (putL ps vs acc)[q]? = some s := by
  obtain ⟨j, hj⟩ := List.mem_iff_getElem?.mp hs
  have hjl := (List.getElem?_eq_some_iff.mp hj).1
  refine ⟨ps[j]'(by omega), List.getElem_mem _, ?_⟩
  rw [putL_get ps vs acc hl nd hp]
  have : ps.idxOf? (ps[j]'(by omega)) = some j := by
    cases e : ps.idxOf? (ps[j]'(by omega)) with
    | none =>
      rw [List.idxOf?_eq_none_iff] at e
      exact absurd (List.getElem_mem _) e
    | some i =>
      rw [List.idxOf?, List.findIdx?_eq_some_iff_getElem] at e
      obtain ⟨h1, h2, h3⟩ := e
      have h2' : ps[i] = ps[j]'(by omega) := by simpa using h2
      have hij : i = j := by
        rcases Nat.lt_trichotomy i j with z | z | z
        · exact absurd h2' (List.pairwise_iff_getElem.mp nd i j h1 (by omega) z)
        · exact z
        · exact absurd h2'.symm (List.pairwise_iff_getElem.mp nd j i (by omega) h1 z)
      rw [hij]
  rw [this]
  exact hj
theorem rnd_at {L : LT} (hL : LG L) : ∀ (cs : List G.Part) {ws : List Str} (acc : List Str) (l : Nat) {out : List Str} {l' : Nat}, (∀ c ∈ cs, N.PartGood c) → ws.length ≤ 12 → Sh 1000 ws → acc.length = ws.length → rndT L cs ws acc l = some (out, l') → ∀ q, (∀ c ∈ cs, q ∉ sp c ws.length) → out[q]? = acc[q]?
  | [], ws, acc, l, out, l', _, _, _, _, h, q, _ => by
    unfold rndT at h
    split at h
    · cases h
    · cases h
      rfl
  | c :: cs, ws, acc, l, out, l', hc, hn, hs, ha, h, q, hq => by
    unfold rndT at h
    cases e : clsT L c ws l with
    | none => rw [e] at h; cases h
    | some z =>
      obtain ⟨p, l1⟩ := z
      rw [e] at h
      have hF := sp_f (hc c List.mem_cons_self) hn
      obtain ⟨g1, _, _⟩ := cls_g hL (hc c List.mem_cons_self) hn hs e
      rw [rnd_at hL cs _ l1 (fun x hx => hc x (List.mem_cons_of_mem _ hx)) hn hs (by rw [putL_len]; exact ha) h q fun c' h' => hq c' (List.mem_cons_of_mem _ h')]
      exact put_out g1.symm hF.nd (fun p hp => by rw [ha]; exact hF.lt p hp) (hq c List.mem_cons_self)
theorem rnd_yes {L : LT} {M : LW} (R : RL L M) : ∀ (cs : List G.Part) {ws : List Str} (acc : List Str) (l : Nat) {out : List Str} {l' : Nat}, (∀ c ∈ cs, N.PartGood c) → Dj cs → ws.length ≤ 12 → Sh 1000 ws → acc.length = ws.length → l ≤ 1000 → rndT L cs ws acc l = some (out, l') → rndW M cs ws acc (1000 - l, false) = (out, (1000 - l', false)) ∧ l' ≤ l
  | [], ws, acc, l, out, l', _, _, _, _, _, _, h => by
    unfold rndT at h
    split at h
    · cases h
    · rename_i hlg
      cases h
      refine ⟨?_, Nat.le_refl _⟩
      show (acc, (1000 - l, (false || long acc))) = _
      cases e : long acc with
      | true => exact absurd e hlg
      | false => rfl
  | c :: cs, ws, acc, l, out, l', hc, hd, hn, hs, ha, hl, h => by
    have h0 := h
    unfold rndT at h
    cases e : clsT L c ws l with
    | none => rw [e] at h; cases h
    | some z =>
      obtain ⟨p, l1⟩ := z
      rw [e] at h
      obtain ⟨d1, d2⟩ := List.pairwise_cons.mp hd
      have hcs : ∀ x ∈ cs, N.PartGood x := fun x hx => hc x (List.mem_cons_of_mem _ hx)
      have hF := sp_f (hc c List.mem_cons_self) hn
      obtain ⟨g1, _, _⟩ := cls_g R.g (hc c List.mem_cons_self) hn hs e
      have hpl : ∀ q ∈ sp c ws.length, q < acc.length := fun q hq => by rw [ha]; exact hF.lt q hq
      have ha2 : (putL (sp c ws.length) p acc).length = ws.length := by rw [putL_len]; exact ha
      have hnl : long p = false := by
        cases z : long p with
        | false => rfl
        | true =>
          exfalso
          unfold long at z
          rw [List.any_eq_true] at z
          obtain ⟨s, hsp, hsl⟩ := z
          obtain ⟨q, hq, e2⟩ := put_in (acc := acc) g1.symm hF.nd hpl hsp
          have e3 := rnd_at R.g cs _ l1 hcs hn hs ha2 h q fun d hd' => d1 d hd' ws.length hn q hq
          rw [e2] at e3
          obtain ⟨_, r2, _⟩ := rnd_g R.g cs _ l1 hcs hn hs ha2 h
          have := r2 s (List.mem_iff_getElem?.mpr ⟨q, e3⟩)
          have := of_decide_eq_true hsl
          omega
      obtain ⟨c1, c2, c3, c4⟩ := cls_yes R (hc c List.mem_cons_self) hn hs hl e
      have c3' : (clsW M c ws (1000 - l, false)).2.2 = false := by
        cases z : (clsW M c ws (1000 - l, false)).2.2 with
        | false => rfl
        | true => rw [c3 z] at hnl; cases hnl
      have hst : (clsW M c ws (1000 - l, false)).2 = (1000 - l1, false) := Prod.ext c2 c3'
      obtain ⟨r1, r2⟩ := rnd_yes R cs (putL (sp c ws.length) p acc) l1 hcs d2 hn hs ha2 (by omega) h
      unfold rndW
      rw [c1, hst]
      exact ⟨r1, by omega⟩
theorem rnd_no {L : LT} {M : LW} (R : RL L M) : ∀ (cs : List G.Part) {ws : List Str} (acc : List Str) (l : Nat), (∀ c ∈ cs, N.PartGood c) → ws.length ≤ 12 → Sh 1000 ws → acc.length = ws.length → l ≤ 1000 → rndT L cs ws acc l = none → (rndW M cs ws acc (1000 - l, false)).2.2 = true
  | [], ws, acc, l, _, _, _, _, _, h => by
    unfold rndT at h
    split at h
    · rename_i hlg
      show (false || long acc) = true
      rw [hlg]
      rfl
    · cases h
  | c :: cs, ws, acc, l, hc, hn, hs, ha, hl, h => by
    unfold rndT at h
    have hcs : ∀ x ∈ cs, N.PartGood x := fun x hx => hc x (List.mem_cons_of_mem _ hx)
    unfold rndW
    cases e : clsT L c ws l with
    | none => exact rndW_stk R.w cs _ _ _ (cls_no R (hc c List.mem_cons_self) hn hs hl e)
    | some z =>
      obtain ⟨p, l1⟩ := z
      rw [e] at h
      dsimp only at h
      obtain ⟨c1, c2, c3, c4⟩ := cls_yes R (hc c List.mem_cons_self) hn hs hl e
      cases z : (clsW M c ws (1000 - l, false)).2.2 with
      | true => exact rndW_stk R.w cs _ _ _ z
      | false =>
        have hst : (clsW M c ws (1000 - l, false)).2 = (1000 - l1, false) := Prod.ext c2 z
        rw [c1, hst]
        exact rnd_no R cs _ l1 hcs hn hs (by rw [putL_len]; exact ha) (by omega) h
theorem run_yes {L : LT} {M : LW} (R : RL L M) : ∀ (rs : List (List G.Part)) (ws : List Str) (l : Nat) {out : List Str} {l' : Nat}, (∀ r ∈ rs, (∀ c ∈ r, N.PartGood c) ∧ Dj r) → ws.length ≤ 12 → Sh 1000 ws → l ≤ 1000 → runT L rs ws l = some (out, l') → runW M rs ws (1000 - l, false) = (out, (1000 - l', false)) ∧ Sh 1000 out
  | [], ws, l, out, l', _, _, hs, _, h => by
    cases h
    exact ⟨rfl, hs⟩
  | r :: rs, ws, l, out, l', hc, hn, hs, hl, h => by
    unfold runT at h
    cases e : rndT L r ws ws l with
    | none => rw [e] at h; cases h
    | some q =>
      obtain ⟨w1, l1⟩ := q
      rw [e] at h
      obtain ⟨hr, hd⟩ := hc r List.mem_cons_self
      obtain ⟨g1, g2, g3⟩ := rnd_g R.g r ws l hr hn hs rfl e
      obtain ⟨y1, y2⟩ := rnd_yes R r ws l hr hd hn hs rfl hl e
      unfold runW
      rw [if_neg (show ¬ ((1000 - l, false) : BX).2 = true from Bool.false_ne_true), y1]
      exact run_yes R rs w1 l1 (fun x hx => hc x (List.mem_cons_of_mem _ hx)) (by omega) g2 (by omega) h
theorem run_no {L : LT} {M : LW} (R : RL L M) : ∀ (rs : List (List G.Part)) (ws : List Str) (l : Nat), (∀ r ∈ rs, (∀ c ∈ r, N.PartGood c) ∧ Dj r) → ws.length ≤ 12 → Sh 1000 ws → l ≤ 1000 → runT L rs ws l = none → (runW M rs ws (1000 - l, false)).2.2 = true
  | [], ws, l, _, _, hs, _, h => by cases h
  | r :: rs, ws, l, hc, hn, hs, hl, h => by
    unfold runT at h
    obtain ⟨hr, hd⟩ := hc r List.mem_cons_self
    unfold runW
    rw [if_neg (show ¬ ((1000 - l, false) : BX).2 = true from Bool.false_ne_true)]
    cases e : rndT L r ws ws l with
    | none => exact runW_stk _ _ _ (rnd_no R r ws l hr hn hs rfl hl e)
    | some q =>
      obtain ⟨w1, l1⟩ := q
      rw [e] at h
      dsimp only at h
      obtain ⟨g1, g2, g3⟩ := rnd_g R.g r ws l hr hn hs rfl e
      obtain ⟨y1, y2⟩ := rnd_yes R r ws l hr hd hn hs rfl hl e
      rw [y1]
      exact run_no R rs w1 l1 (fun x hx => hc x (List.mem_cons_of_mem _ hx)) (by omega) g2 (by omega) h
theorem led_rl {ms : List G.Mate} (O : Ok ms) (D : ∀ x ∈ ms, ∀ r ∈ x.rounds, Dj r) : ∀ n : Nat, RL (ledT ms n) (ledW ms n)
  | 0 => ⟨led_g O 0, ledW_g O 0, fun nm ws l out l' _ _ _ h => (by cases h), fun nm ws l _ _ _ _ => rfl⟩
  | n + 1 => ⟨led_g O _, ledW_g O _, fun nm ws l out l' hs hn hl h => by
    unfold ledT at h
    unfold ledW
    split at h
    · cases h
    · rename_i hl0
      cases e : ms.find? (fun x => decide (x.tag = nm)) with
      | none => rw [e] at h; cases h
      | some x =>
        rw [e] at h
        dsimp only at h ⊢
        have hx := List.mem_of_find?_eq_some e
        have hst : ((1000 - l + 1, (false || decide (1000 < 1000 - l + 1))) : BX) = (1000 - (l - 1), false) := Prod.ext (by show 1000 - l + 1 = 1000 - (l - 1); omega) (by show (false || decide (1000 < 1000 - l + 1)) = false; rw [Bool.false_or]; exact decide_eq_false (by omega))
        rw [hst]
        split at h
        · rename_i hb
          cases h
          rw [if_pos hb]
          show (_, (_, (false || _))) = _
          rw [Bool.false_or]
        · rename_i hb
          rw [if_neg hb]
          obtain ⟨a, b⟩ := run_yes (led_rl O D n) x.rounds ws (l - 1) (fun r hr => ⟨(O.cl x hx r hr).2, D x hx r hr⟩) hn hs (by omega) h
          rw [a, long_sh b], fun nm ws l hs hn hl h => by
    unfold ledT at h
    unfold ledW
    cases e : ms.find? (fun x => decide (x.tag = nm)) with
    | none => rfl
    | some x =>
      rw [e] at h
      dsimp only at h ⊢
      have hx := List.mem_of_find?_eq_some e
      split at h
      · rename_i hl0
        have hst : (false || decide (1000 < 1000 - l + 1)) = true := by
          rw [Bool.false_or]
          exact decide_eq_true (by omega)
        rw [hst]
        split
        · rfl
        · exact runW_stk _ _ _ rfl
      · rename_i hl0
        have hst : ((1000 - l + 1, (false || decide (1000 < 1000 - l + 1))) : BX) = (1000 - (l - 1), false) := Prod.ext (by show 1000 - l + 1 = 1000 - (l - 1); omega) (by show (false || decide (1000 < 1000 - l + 1)) = false; rw [Bool.false_or]; exact decide_eq_false (by omega))
        rw [hst]
        split at h
        · cases h
        · rename_i hb
          rw [if_neg hb]
          exact run_no (led_rl O D n) x.rounds ws (l - 1) (fun r hr => ⟨(O.cl x hx r hr).2, D x hx r hr⟩) hn hs (by omega) h⟩
theorem dj_key : ∀ (o1 o2 b : _root_.Fin 3) (n : _root_.Fin 13), o1.val < b.val + 1 → o2.val < b.val + 1 → o1 ≠ o2 → (((spots (o1.val : Int) (n.val : Int) ((b.val + 1 : Nat) : Int)).map Int.toNat).all fun p => !((spots (o2.val : Int) (n.val : Int) ((b.val + 1 : Nat) : Int)).map Int.toNat).contains p) = true := by decide +kernel
theorem dj_of {c d : G.Part} (hc : N.PartGood c) (hd : N.PartGood d) (hb : c.by_ = d.by_) (ho : c.over ≠ d.over) {n : Nat} (hn : n ≤ 12) : ∀ p ∈ sp c n, p ∉ sp d n := by
  obtain ⟨o1, b1, e1, f1, l1⟩ := part_nat hc
  obtain ⟨o2, b2, e2, f2, l2⟩ := part_nat hd
  have hbb : b1.val + 1 = b2.val + 1 := Int.ofNat.inj (f1.symm.trans (hb.trans f2))
  have k := dj_key o1 o2 b1 ⟨n, Nat.lt_succ_of_le hn⟩ l1 (hbb ▸ l2) (fun z => ho (by rw [e1, e2, z]))
  dsimp only at k
  rw [← e1, ← e2, ← f1] at k
  intro p hp hq
  have := List.all_eq_true.mp k p hp
  rw [hb] at this
  have hq' : ((spots d.over (n : Int) d.by_).map Int.toNat).contains p = true := List.contains_iff_mem.mpr hq
  rw [hq'] at this
  cases this
theorem dj_good {lower tags : List Str} {r : List G.Part} (h : N.RoundGood lower tags r) : Dj r := by
  obtain ⟨b, hb⟩ := h.by_
  have nd := h.nd
  have hg := h.good
  unfold Dj
  rw [List.Nodup, List.pairwise_map] at nd
  refine List.Pairwise.imp_of_mem (fun {c d} hc hd z => ?_) nd
  exact fun n hn => dj_of (hg c hc) (hg d hd) (by rw [hb c hc, hb d hd]) z hn
end GT
namespace J
open PySem PySem.Spec
open PyProof.Rows L2
theorem putK_new {k : Key} {v : V} {kvs : List (Key × V)} (h : k ∉ kvs.map (·.1)) : putK kvs k v = kvs ++ [(k, v)] := by
  unfold putK
  rw [if_neg]
  rw [List.any_eq_true]
  rintro ⟨kv, hm, e⟩
  exact h (List.mem_map.mpr ⟨kv, hm, of_decide_eq_true e⟩)
section
variable {X : Cx} {ρ : REnv} {μ μ1 : Sto} {kx vx tg iter : Expr} {pos : Pos} {ds : List PyData}
theorem EV.dcMap {scope : Scope} {own : List (Str × Nat)} (kf : PyData → Str) (vf : PyData → PyData) (hi : IV X tg iter ρ μ ds μ1)
    (hs : ∀ d ∈ ds, ∃ ρ', (∀ s H C cl fp, GV (blkX X scope s H C cl fp) tg d (wipeE ρ (own.map (·.2))) ρ' (own.map (·.2))) ∧ (∀ s H C cl fp, EV (blkX X scope s H C cl fp) kx ρ' μ1 (Ss (kf d)) μ1) ∧ (∀ s H C cl fp, EV (blkX X scope s H C cl fp) vx ρ' μ1 (.dat (vf d)) μ1))
    (nd : (ds.map kf).Nodup) (hl : ds.length ≤ 1000) (hc : X.calm = true) (hN : X.N.Nodup) (ok : BlkOk X.N X.env.scope scope own) (hst : ∀ x, foldedSetIterable iter X.env x = pure x := by intro _; rfl) : EV X (.DictComp kx vx [⟨tg, iter, [], 0⟩] scope pos) ρ μ (.dat (.dict (ds.map fun d => (.str (kf d), vf d)))) μ1 := by
  intro w σ H m s Q q
  refine ⟨_, pe_dc hc hN (p_ix (tg := tg) (e := iter)) ok (pg_C (tg := tg)) (pts_C (ifs := [])) (pe_C (elt := kx)) (pe_C (elt := vx)) hst, ?_⟩
  refine hi w σ H m s _ fun J H1 m1 f1 wk => ?_
  intro D hD
  have hD0 : Nw H D := Nw.back f1 (Nw.of hD) (m1.fresh hD)
  refine ⟨fun i n H2 => n = ds.length - i ∧ i ≤ ds.length ∧ ∃ kvs, Mem X.K H2 (wk' w D) μ1 ∧ Fr w.α H1 (fun b => if b = D then none else H2 b) ∧ H2 D = some (.dK kvs) ∧ kvs.map (·.1) = (ds.take i).map (fun d => (Sum.inr (kf d) : Key)) ∧ DqAll (dl H2 (wk' w D).all) (kvs.map (·.2)) ((ds.take i).map vf), ⟨ds.length, by simp, Nat.zero_le _, [], m1.keep hD, fun b o e hb _ => ?_, upd_same, by simp, by simpa using DqAll.nil⟩, ?_⟩
  · have : b ≠ D := ne_of_none e hD
    simp [this, upd_ne this, e]
  rintro i n H2 ⟨rfl, hi', kvs, m2, f2, e2, k2, hd2⟩
  have fr2 : ∀ b o, H1 b = some o → b ∉ w.α → Nt o → H2 b = some o := fun b o e hb nt => by
    have : (if b = D then none else H2 b) = some o := f2 b o e hb nt
    by_cases z : b = D
    · rw [if_pos z] at this; cases this
    · rwa [if_neg z] at this
  have g12 : Same (dl H1 w.all) (dl H2 (wk' w D).all) := keep_out (K := X.K) hD fr2 ⟨_, e2⟩
  have g12' : Same (dl H1 w.all) H2 := g12.trans dl_same
  by_cases hlt : i < ds.length
  · obtain ⟨d, hdi⟩ : ∃ d, ds[i]? = some d := ⟨ds[i], by simp [hlt]⟩
    obtain ⟨go, yl⟩ := wk.go H2 g12' i d hdi
    refine .inr ⟨go, fun H' => ∃ kvs, Mem X.K H' (wk' w D) μ1 ∧ Fr w.α H1 (fun b => if b = D then none else H' b) ∧ H' D = some (.dK kvs) ∧ kvs.map (·.1) = (ds.take (i + 1)).map (fun d => (Sum.inr (kf d) : Key)) ∧ DqAll (dl H' (wk' w D).all) (kvs.map (·.2)) ((ds.take (i + 1)).map vf), fun H' h => ⟨ds.length - (i + 1), by omega, rfl, hlt, h⟩, fun x H3 y3 => ?_⟩
    obtain ⟨s23, dx⟩ := yl x H3 y3
    have dx3 : Dq (dl H3 (wk' w D).all) x d := dx _ g12 fun b hb => (all_wk'.mp hb).elim (fun z => z ▸ ⟨_, e2⟩) fun hb => (List.mem_append.mp hb).elim (fun z => (m2.there z).elim fun vs e => ⟨_, e⟩) fun z => m2.ex1 (List.mem_cons_of_mem _ z)
    have m3 := m2.same s23
    have f23 : Fr (wk' w D).α H2 H3 := Fr.of_same s23
    have sl3 : Sl X.K H3 (wk' w D) (wipe σ (own.map (·.2))) (wipeE ρ (own.map (·.2))) := (sl_wipe ((s.fr f1).same2 g12) _).fr f23
    obtain ⟨ρ', hgv, hkv, hvv⟩ := hs d (List.mem_iff_getElem?.mpr ⟨i, hdi⟩)
    intro s' H0 C cl fp
    refine hgv s' H0 C cl fp _ _ H3 μ1 x m3 sl3 dx3 _ fun σ4 sl4 ew => ⟨ew.trans (wipe_wipe _ σ), .inl ⟨rfl, ?_⟩⟩
    refine iteT ?_
    intro s' H0 C cl fp
    refine hkv s' H0 C cl fp (wk' w D) σ4 H3 m3 sl4 _ fun y H4 m4 f34 hy => ?_
    cases hy
    intro s' H0 C cl fp
    refine hvv s' H0 C cl fp (wk' w D) σ4 H4 m4 (sl4.fr f34) _ fun z H5 m5 f45 hz => ?_
    have hDa : D ∉ w.α := m2.out D List.mem_cons_self
    have f25 : Fr (wk' w D).α H2 H5 := (f23.trans f34).trans f45
    have e5 : H5 D = some (.dK kvs) := f25 D _ e2 hDa (fun q z => by cases z)
    have g25 : Same (dl H2 (wk' w D).all) (dl H5 (wk' w D).all) := Fr.all (w := wk' w D) f25
    have hkl : kvs.length = i := by
      have := congrArg List.length k2
      rw [List.length_map, List.length_map, List.length_take] at this
      omega
    have hnew : (Sum.inr (kf d) : Key) ∉ kvs.map (·.1) := by
      rw [k2]
      intro hm
      obtain ⟨d', hd', e'⟩ := List.mem_map.mp hm
      injection e' with e'
      obtain ⟨j, hj⟩ := List.mem_iff_getElem?.mp hd'
      have hji : j < i := by
        have := (List.getElem?_eq_some_iff.mp hj).1
        rw [List.length_take] at this
        omega
      rw [List.getElem?_take_of_lt hji] at hj
      have q1 : (ds.map kf)[j]? = some (kf d) := by rw [List.getElem?_map, hj]; exact congrArg some e'
      have q2 : (ds.map kf)[i]? = some (kf d) := by rw [List.getElem?_map, hdi]; rfl
      have l1 := (List.getElem?_eq_some_iff.mp q1).1
      have := (List.getElem?_inj l1 nd).mp (q1.trans q2.symm)
      omega
    refine ⟨kvs, Sum.inr (kf d), rfl, e5, ?_, kvs ++ [(Sum.inr (kf d), z)], m5.outs, fun b o e hb nt => ?_, by rw [upd_same, putK_new hnew], ?_, ?_⟩
    · rw [hkl]
      exact Nat.lt_of_lt_of_le hlt (Nat.le_trans hl (by decide))
    · have nb : b ≠ D := ne_of_none e hD
      simp only [nb, if_false, upd_ne nb]
      exact f25 b o (fr2 b o e hb nt) hb nt
    · rw [List.map_append, k2, List.take_succ, hdi, List.map_append]
      rfl
    · have et : (ds.take (i + 1)).map vf = (ds.take i).map vf ++ [vf d] := by
        rw [List.take_succ, hdi, List.map_append]
        rfl
      rw [List.map_append, et]
      exact dqAll_append (dqAll_mono (g25.trans same_outs) _ _ hd2) (.cons (dq_mono same_outs _ _ hz) .nil)
  · have ei : i = ds.length := by omega
    subst ei
    rw [List.take_length] at k2 hd2
    refine .inl ⟨wk.stop H2 g12', q _ H2 m2.unkeep (f1.trans fr2) ?_⟩
    have hD2 : D ∉ w.all := m1.freshA hD
    have hq : Dq (dl H2 w.all) (.ref D) (.dict (((ds.map (fun d => (Sum.inr (kf d) : Key))).map keyD).zip (ds.map vf))) := Dq.dic (dl_of hD2 e2) k2 (dqAll_mono (dl_sub fun b hb => all_wk'.mpr (.inr hb)) _ _ hd2)
    have ez : ((ds.map (fun d => (Sum.inr (kf d) : Key))).map keyD).zip (ds.map vf) = ds.map fun d => (PyData.str (kf d), vf d) := by
      rw [List.map_map, List.zip_map']
      rfl
    rw [ez] at hq
    exact hq
end
end J
namespace PySem
namespace OG
open PySem.Calls PyProof.Rows Builtin Builtin.ObjectAttr
noncomputable def lineOf (B : String) : List Value := .type B :: [.type "Exception", .type "BaseException", .type "object"]
noncomputable def ownLine (B : String) : List Value → Bool
  | .ref _ :: more => ownLine B more
  | line => line == lineOf B
theorem ownLine_split {B : String} : ∀ l : List Value, ownLine B l = true → (∃ a more, l = .ref a :: more ∧ ownLine B more = true) ∨ l = lineOf B := by
  intro l e
  match l, e with
  | .ref a :: more, e => exact .inl ⟨a, more, rfl, e⟩
  | [], e => exact .inr (beq_iff_eq.mp e)
  | .none :: _, e | .ellipsis :: _, e | .notImplemented :: _, e | .bool _ :: _, e | .int _ _ :: _, e | .float _ _ :: _, e | .str _ _ :: _, e | .bytes _ _ :: _, e | .type _ :: _, e | .builtin _ :: _, e => exact .inr (beq_iff_eq.mp e)
structure Under (line : List Value) (make : String) : Prop where
  base : ∃ (B : String) (init : String) (tail : List Value), ExcBaseFacts B make init tail ∧ ∀ Y : String, line.contains (.type Y) = tail.contains (.type Y)
  free : ∀ self : Value, refuseLoop self "__setattr__" line = pure ()
  some_ : line.isEmpty = false
theorem under_line {B init make : String} (F0 : ExcBaseFacts B make init (lineOf B)) (p : ∀ self : Value, refuseLoop self "__setattr__" (lineOf B) = pure ()) : ∀ line : List Value, ownLine B line = true → Under line make ∧ line.contains (.type "object") = true := by
  intro line
  induction line with
  | nil => intro e; cases (beq_iff_eq.mp e : [] = lineOf B)
  | cons a more ih =>
    intro e
    rcases ownLine_split (a :: more) e with ⟨a', more', q, h⟩ | q
    · obtain ⟨rfl, rfl⟩ := List.cons.inj q
      obtain ⟨⟨⟨B', i', t', G, hY⟩, hp, _⟩, hobj⟩ := ih h
      refine ⟨⟨⟨B', i', t', G, fun Y => ?_⟩, fun self => ?_, rfl⟩, ?_⟩
      · rw [List.contains_cons, hY Y]
        rfl
      · rw [refuseLoop_ref]
        exact hp self
      · rw [List.contains_cons, hobj, Bool.or_true]
    · rw [q]
      exact ⟨⟨⟨B, init, lineOf B, F0, fun Y => rfl⟩, p, rfl⟩, by
        unfold lineOf
        simp⟩
theorem under_of {B make : String} {line : List Value} (h : (B = "ValueError" ∧ make = "ValueError.__new__") ∨ (B = "LookupError" ∧ make = "LookupError.__new__") ∨ (B = "ArithmeticError" ∧ make = "ArithmeticError.__new__")) (e : ownLine B line = true) : Under line make ∧ line.contains (.type "object") = true := by
  rcases h with ⟨rfl, rfl⟩ | ⟨rfl, rfl⟩ | ⟨rfl, rfl⟩
  · exact under_line F.excBase_ValueError (fun self => by kernel_rfl) line e
  · exact under_line F.excBase_LookupError (fun self => by kernel_rfl) line e
  · exact under_line F.excBase_ArithmeticError (fun self => by kernel_rfl) line e
section
variable {pr : Program} {wo : World} {Ar : Around} {Rq : Result → Shared → Prop} {u0 : Heap} {gs : Array GenState} {dr : Drawn} {tm : Nat} {oz : OsState}
theorem put_first {K : W.Frag} {y : Str} {tk : Tok} {val : Value} {e C : Addr} {parts : Array Value} {cd : ClassData} {make : String}
    (X : K.In u0) (at_ : u0.get? e = some { cls := .ref C, data := .fields parts }) (cls : W.clsIn K C = some cd) (U : Under cd.mro make) (ob : cd.mro.contains (.type "object") = true) (dic : cd.hasDict = true) (no : W.findIn K (.ref C) y = some none)
    (goal : ∀ u1 tk1 dx, (∀ b o, b ≠ e → u0.get? b = some o → u1.get? b = some o) → u0.objs.size ≤ dx → dx ≠ e → u1.get? e = some { cls := .ref C, dict := some dx, data := .fields parts } →
      u1.Ns1 dx (fun z => if z = y then some val else none) → Rq (.ok (.ret .none)) ⟨u1, gs, dr, tk1, oz⟩) :
    codeAny (model pr wo) Ar (.call (.builtin "object.__setattr__") ⟨[.ref e, .str y tk, val], []⟩) Rq ⟨u0, gs, dr, tm, oz⟩ := by
  have In0 : W.InstAt u0 e { cls := .ref C, data := .fields parts } C none := ⟨at_, rfl, rfl, trivial⟩
  have St := F.store_object
  have far : e ≠ u0.objs.size := Nat.ne_of_lt (Heap.lt_size at_)
  have isO : W.Looks (model pr wo) u0 (isInstance (.ref e) (.type "object")) true := In0.type.andThen (W.looks_mroIn X (by
    unfold W.mroIn
    rw [cls, Option.bind_some, if_neg (by rw [U.some_]; decide), ob]))
  refine codeAny_call_builtin St.slot.plain St.entry ?_
  refine @W.check_slot (model pr wo) _ _ ⟨u0, gs, dr, tm, oz⟩ "object.__setattr__" "object" "__setattr__" (.ref e) [.str y tk, val] [] _ St.kind St.split isO (St.args (.ref e) (.str y tk) val) ?_
  have order : W.Looks (model pr wo) u0 (mroOf (.ref C)) cd.mro := (W.looks_clsIn X cls).andThen .now
  have noTaker : W.Looks (model pr wo) u0 (storeTaker? none) none := .now
  have theCls : W.Looks (model pr wo) u0 (classData C) cd := W.looks_clsIn X cls
  rw [W.osa_eq, refuse_eq]
  refine wpAny_bind (wpAny_bind (In0.type.at (wpAny_bind (order.at ?_))))
  rw [U.free]
  refine wpAny_pure (wpAny_bind (In0.type.at (wpAny_bind ((W.looks_findIn X no).at (wpAny_bind (noTaker.at ?_))))))
  show wpAny _ _ (storeInOwnDict (.ref e) (.ref C) (.str y tk) y val false) _ _ _
  obtain ⟨_, _, _, _, _, hd, _, _, _, _, _⟩ := cd
  dsimp only at dic
  subst dic
  unfold storeInOwnDict ownDictForStores
  repeat (first
    | with_reducible refine HandSPX.store_in_new ?_ ?_
    | with_reducible refine wpAny_loadPart_at at_ ?_
    | with_reducible refine theCls.at ?_
    | wp_step)
  · exact ⟨_, #[], _, (Heap.get?_update_ne _ _ _ _ far.symm).trans (Heap.get?_push_at rfl rfl), rfl, (fun z hz => absurd hz (by simp)), fun _ => rfl⟩
  · intro u1 tk1 ns same
    have e1 : (u0.push { cls := .type "dict", data := .dict #[] }).get? e = some { cls := .ref C, data := .fields parts } := Heap.get?_push_of_some _ at_
    refine goal u1 tk1 u0.objs.size (fun b o nb eo => ?_) (Nat.le_refl _) far.symm ?_ ns
    · have nb2 : b ≠ u0.objs.size := Nat.ne_of_lt (Heap.lt_size eo)
      exact (same.2 b nb2).trans ((Heap.get?_update_ne _ _ _ _ nb).trans (Heap.get?_push_of_some _ eo))
    · exact (same.2 e far).trans (Heap.get?_update_self _ e1 rfl)
theorem put_more {K : W.Frag} {y : Str} {tk : Tok} {val : Value} {e C dx : Addr} {parts : Array Value} {cd : ClassData} {make : String} {m0 : Str → Option Value} {known : List Str}
    (X : K.In u0) (at_ : u0.get? e = some { cls := .ref C, dict := some dx, data := .fields parts }) (ns0 : u0.Ns1 dx m0) (wi : Within m0 known) (few : known.length ≤ 1000) (cls : W.clsIn K C = some cd) (U : Under cd.mro make) (ob : cd.mro.contains (.type "object") = true) (dic : cd.hasDict = true) (no : W.findIn K (.ref C) y = some none)
    (goal : ∀ u1 tk1, (∀ b o, b ≠ dx → u0.get? b = some o → u1.get? b = some o) → u1.Ns1 dx (fun z => if z = y then some val else m0 z) → Rq (.ok (.ret .none)) ⟨u1, gs, dr, tk1, oz⟩) :
    codeAny (model pr wo) Ar (.call (.builtin "object.__setattr__") ⟨[.ref e, .str y tk, val], []⟩) Rq ⟨u0, gs, dr, tm, oz⟩ := by
  obtain ⟨dO, _, _, hdO, _, _⟩ := ns0.count wi
  have In0 : W.InstAt u0 e { cls := .ref C, dict := some dx, data := .fields parts } C (some dO) := ⟨at_, rfl, rfl, hdO⟩
  have St := F.store_object
  have isO : W.Looks (model pr wo) u0 (isInstance (.ref e) (.type "object")) true := In0.type.andThen (W.looks_mroIn X (by
    unfold W.mroIn
    rw [cls, Option.bind_some, if_neg (by rw [U.some_]; decide), ob]))
  refine codeAny_call_builtin St.slot.plain St.entry ?_
  refine @W.check_slot (model pr wo) _ _ ⟨u0, gs, dr, tm, oz⟩ "object.__setattr__" "object" "__setattr__" (.ref e) [.str y tk, val] [] _ St.kind St.split isO (St.args (.ref e) (.str y tk) val) ?_
  have order : W.Looks (model pr wo) u0 (mroOf (.ref C)) cd.mro := (W.looks_clsIn X cls).andThen .now
  have noTaker : W.Looks (model pr wo) u0 (storeTaker? none) none := .now
  have theCls : W.Looks (model pr wo) u0 (classData C) cd := W.looks_clsIn X cls
  rw [W.osa_eq, refuse_eq]
  refine wpAny_bind (wpAny_bind (In0.type.at (wpAny_bind (order.at ?_))))
  rw [U.free]
  refine wpAny_pure (wpAny_bind (In0.type.at (wpAny_bind ((W.looks_findIn X no).at (wpAny_bind (noTaker.at ?_))))))
  show wpAny _ _ (storeInOwnDict (.ref e) (.ref C) (.str y tk) y val false) _ _ _
  obtain ⟨_, _, _, _, _, hd, _, _, _, _, _⟩ := cd
  dsimp only at dic
  subst dic
  unfold storeInOwnDict ownDictForStores
  repeat (first
    | with_reducible refine OEX.store_in_old ns0 wi few ?_
    | with_reducible refine wpAny_loadPart_at at_ ?_
    | with_reducible refine theCls.at ?_
    | wp_step)
  intro u1 tk1 ns same
  exact goal u1 tk1 (fun b o nb eo => (same.2 b nb).trans eo) ns
end
end OG
end PySem
namespace J
open PySem PySem.Spec
open PyProof.Rows L2
structure OexG (K : PySem.W.Frag) (C : Addr) : Prop where
  cls : ∃ nm q N bs bm sn sub ab col dd k0 k1 k2 k3 k5 make, K.lookup C = some (excClassObj nm q C N bs bm true sn sub ab col dd k0 k1 k2 k3 k5 make) ∧ OG.Under bm make ∧ bm.contains (.type "object") = true
  sa : PySem.W.findIn K (.ref C) "__setattr__" = some (some (.builtin "object.__setattr__"))
  exC : PySem.W.subIn K (.ref C) (.type "BaseException") = some true
  tyC : PySem.W.typeIn K (.ref C) = some (.type "type")
  kC : PySem.W.keepIn K (.ref C) = true
section
variable {X : Cx} {pins : List (Addr × Obj)} {σ : L2.St} {H : Hp} {s : Shared} {a C dx : Addr} {f : Str} {y : V} {u : Value} {fs : List (Str × V)} {Q : Unit → Shared → Prop} {E : Value → Shared → Prop} {A : Around}
theorem under_cons {K : PySem.W.Frag} {C : Addr} {bm : List Value} {make : String} (U : OG.Under bm make) : OG.Under (.ref C :: bm) make := by
  obtain ⟨⟨B, i, t, G, hY⟩, hp, _⟩ := U
  refine ⟨⟨B, i, t, G, fun Y => ?_⟩, fun self => ?_, rfl⟩
  · rw [List.contains_cons, hY Y]
    rfl
  · rw [refuseLoop_ref]
    exact hp self
theorem ostG_new (T : OexG X.K C) (I : Inv X pins σ H s) (e : H a = some (exo a C none)) (no : PySem.W.findIn X.K (.ref C) f = some none) (ry : RelV y u)
    (goal : ∀ dx s', H dx = none → dx ≠ a → Inv X pins σ (upd (upd H dx (exd dx [(f, y)])) a (exo a C (some dx))) s' → Q () s') : wpAny (model X.prog X.w) A (setAttr (.ref a) f u) Q E s := by
  obtain ⟨nm, q, N, bs, bm, sn, sub, ab, col, dd, k0, k1, k2, k3, k5, make, lk, U, ob⟩ := T.cls
  obtain ⟨t1, eo⟩ := exo_at I.hok e
  obtain ⟨u0, gs, dr, tm, oz⟩ := s
  have cl : PySem.W.clsIn X.K C = some { name := nm, bases := bs, mro := .ref C :: bm, ns := N, qualname := q, hasDict := true, slotNames := sn, subclasses := sub, abstract := ab, collection := col, hasDel := false } := by
    unfold PySem.W.clsIn
    rw [lk]
  have inst : PySem.W.InstAt u0 a { cls := .ref C, dict := none, data := .fields #[.ref t1, .none, .none, .none, .bool false, .none] } C none := ⟨eo, rfl, rfl, trivial⟩
  refine PySem.W.set_plain I.kIn inst T.sa ?_
  refine OG.put_first I.kIn eo cl (under_cons (K := X.K) U) (by rw [List.contains_cons, ob, Bool.or_true]) rfl no fun u1 tk1 dx keep out ne at1 ns => ?_
  have free : H dx = none := I.hok.fresh out
  have other : ∀ {b : Addr} {o : Obj}, u0.get? b = some o → b ≠ dx := fun {b o} eb => Nat.ne_of_lt (Nat.lt_of_lt_of_le (Heap.lt_size eb) out)
  have nota : ∀ {b : Addr}, H b = none → b ≠ a := fun {b} n z => by rw [z, e] at n; cases n
  let H2 : Hp := upd (upd H dx (exd dx [(f, y)])) a (exo a C (some dx))
  have same : ∀ {b : Addr}, b ≠ a → b ≠ dx → H2 b = H b := fun {b} n1 n2 => by
    show upd (upd H dx (exd dx [(f, y)])) a (exo a C (some dx)) b = H b
    rw [upd_ne n1, upd_ne n2]
  have change : Un X.fs [] H H2 u0 u1 := {
    keep := fun b o eb n _ _ => keep b o (nota n) eb
    slot := fun b o eb n _ _ => ⟨o.slots, keep b o (nota n) eb⟩
    free := fun b o eb n _ => (same (nota n) (other eb)).trans n
    there := fun b o eb _ => by
      by_cases hb : b = a
      · subst hb
        exact ⟨_, at1⟩
      · exact ⟨o, keep b o hb eb⟩
    tups := fun b xs eb => (same (at_ne e eb exo_tup) (ne_of_none eb free)).trans eb
    frzs := fun b o v eb => (same (at_ne e eb exo_frz) (ne_of_none eb free)).trans eb
    tbls := fun b ps eb => ⟨#[], by rw [same (at_ne e eb exo_tbl) (ne_of_none eb free), eb]; simp⟩ }
  refine goal dx _ free ne (I.un (t' := tk1) change fun b o eb => ?_)
  by_cases h1 : b = a
  · subst h1
    have eb' : upd (upd H dx (exd dx [(f, y)])) b (exo b C (some dx)) b = some o := eb
    rw [upd_same] at eb'
    cases eb'
    exact exo_ok at1
  · by_cases h2 : b = dx
    · subst h2
      have eb' : upd (upd H b (exd b [(f, y)])) a (exo a C (some b)) b = some o := eb
      rw [upd_ne h1, upd_same] at eb'
      cases eb'
      exact exd_ok ns (relO_put (fs := []) ry fun g => True.intro)
    · have eb2 : H b = some o := (same h1 h2).symm.trans eb
      refine (I.hok b o eb2).stay (fun c v hc z => keep c v ?_ z) (fun c hc => ?_) (fun c xs hc => ?_)
      · rcases hc with hc | hc
        · rw [hc]
          exact h1
        · exact at_ne e hc exo_own
      · exact (same (at_ne e hc exo_own) (ne_of_none hc free)).trans hc
      · exact (same (at_ne e hc exo_tup) (ne_of_none hc free)).trans hc
theorem ostG_more (T : OexG X.K C) (I : Inv X pins σ H s) (e : H a = some (exo a C (some dx))) (ed : H dx = some (exd dx fs)) (few : fs.length ≤ 900) (no : PySem.W.findIn X.K (.ref C) f = some none) (ry : RelV y u)
    (goal : ∀ s', Inv X pins σ (upd H dx (exd dx ((f, y) :: fs))) s' → Q () s') : wpAny (model X.prog X.w) A (setAttr (.ref a) f u) Q E s := by
  obtain ⟨nm, q, N, bs, bm, sn, sub, ab, col, dd, k0, k1, k2, k3, k5, make, lk, U, ob⟩ := T.cls
  obtain ⟨t1, eo⟩ := exo_at I.hok e
  obtain ⟨mA, ns0, rel⟩ := exd_at I.hok ed
  have wi := within_of rel
  obtain ⟨u0, gs, dr, tm, oz⟩ := s
  obtain ⟨dO, _, _, hdO, _, _⟩ := ns0.count wi
  have cl : PySem.W.clsIn X.K C = some { name := nm, bases := bs, mro := .ref C :: bm, ns := N, qualname := q, hasDict := true, slotNames := sn, subclasses := sub, abstract := ab, collection := col, hasDel := false } := by
    unfold PySem.W.clsIn
    rw [lk]
  have inst : PySem.W.InstAt u0 a { cls := .ref C, dict := some dx, data := .fields #[.ref t1, .none, .none, .none, .bool false, .none] } C (some dO) := ⟨eo, rfl, rfl, hdO⟩
  refine PySem.W.set_plain I.kIn inst T.sa ?_
  refine OG.put_more I.kIn eo ns0 wi (by rw [List.length_map]; omega) cl (under_cons (K := X.K) U) (by rw [List.contains_cons, ob, Bool.or_true]) rfl no fun u1 tk1 keep ns => ?_
  have there : ∃ o, u1.get? dx = some o := by
    obtain ⟨o, _, _, e', _⟩ := ns
    exact ⟨o, e'⟩
  have put := relO_put (f := f) ry rel
  exact goal _ (I.write (t' := tk1) (x := dx) (e := dx) (o := exd dx ((f, y) :: fs)) (by rw [ed]; exact True.intro) (.inl rfl) keep there (exd_ok ns put))
end
noncomputable def tOsG (K : PySem.W.Frag) (f : Str) (to te : TE) : TS := fun D σ H => te σ H fun y H1 => to σ H1 fun x H2 => ∃ a C : Addr, x = .ref a ∧ OexG K C ∧ PySem.W.findIn K (.ref C) f = some none ∧
  ((H2 a = some (exo a C none) ∧ ∀ dx, H2 dx = none → dx ≠ a → D.nx σ (upd (upd H2 dx (exd dx [(f, y)])) a (exo a C (some dx)))) ∨
    ∃ (dx : Addr) (fs : List (Str × V)), H2 a = some (exo a C (some dx)) ∧ H2 dx = some (exd dx fs) ∧ fs.length ≤ 900 ∧ D.nx σ (upd H2 dx (exd dx ((f, y) :: fs))))
section
variable {X : Cx} {o e : Expr} {es : List Expr} {to te : TE} {ta : TA} {f : Str} {p p' pos : Pos}
theorem ps_osG (ho : PE X o to) (he : PE X e te) (sw : swapsWith e (some (.Attribute o f p')) pos.line X.env = pure false := by rfl) : PS X (.Assign [.Attribute o f p'] e pos) (tOsG X.K f to te) := by
  refine ⟨fun pins s σ H D I h => ?_⟩
  refine plainObj_wpAny_Assign_Attribute (thn (he.run pins s σ H _ I h) fun vu s1 hpat => ?_) sw
  obtain ⟨y, H1, I1, ry, q1⟩ := hpat
  refine thn (ho.run pins s1 σ H1 _ I1 q1) fun xu s2 hpat => ?_
  obtain ⟨x, H2, I2, rx, a, C, ex, T, no, q⟩ := hpat
  subst ex
  obtain rfl : xu = Value.ref a := rx
  rcases q with ⟨ea, q⟩ | ⟨dx, fs, ea, ed, few, q⟩
  · exact ostG_new T I2 ea no ry fun dx s' free ne J => ⟨σ, _, J, q dx free ne⟩
  · exact ostG_more T I2 ea ed few no ry fun s' J => ⟨σ, _, J, q⟩
theorem pmk_oexG {Y : CXT} {x : Str} {C gI : Addr} {k : Nat} {fd : FuncData} {ps : List Str} {sp : Sp} (O : OexG X.K C) (hi : PySem.W.findIn X.K (.ref C) "__init__" = some (some (.ref gI))) (ht : PySem.W.typeIn X.K (.ref gI) = some (.type "function"))
    (Fn : FnOk X.prog X.w X.K X.mg X.base Y k gI fd ps sp) (room : Room (k + 1) X.A) (bi : Binds X.K fd ps []) (pass : Passes Y X (fun _ _ _ => False)) (glob : Gl X x) (mean : X.mg x = some (.ref C)) (args : PA X (e :: es) ta)
    (ndb : (x == ("__debug__" : Str)) = false := by decide) (st : starEach (e :: es) X.env = (false, eval e X.env) :: starEach es X.env := by rfl) (pl : (backTo pos (starEach es X.env)).any (·.1) = false := by rfl) :
    L2N.PMk X (.Call (.Name x p) (e :: es) [] pos) (tMkO C sp [] ta) := by
  intro pins s0 σ0 H0 Q J hh
  obtain ⟨c1, c2, c3, c4, c5, c6, c7, c8, c9, c10, c11, c12, c13, c14, c15, make, look, ⟨⟨B, iid, tail, G0, hY⟩, _, _⟩, _⟩ := O.cls
  refine wpAny_Call_Name_kw (ld_glob J glob mean ?_ ndb)
  refine PySem.W.callWith_K (h₀ := X.base) J.ok.mod.kin O.kC (thn (args.run pos pins s0 σ0 H0 _ J hh) fun vals t1 ⟨ws, G, J1, rel, _, want⟩ => ⟨J1.kIn, ?_⟩) st pl
  show wpAny _ _ (call (.ref C) vals) _ _ _
  obtain ⟨h1, gn, dw, tok, sys⟩ := t1
  have le1 : h1.objs.size ≤ h1.objs.size + 1 := Nat.le_succ _
  have want1 := want (h1.objs.size + 1) (J1.hok.fresh le1)
  rw [List.append_nil] at want1
  have keep1 : ∀ b u, h1.get? b = some u → ((h1.push (PySem.W.kdv_tup vals)).push (PySem.HandSPX.excO C h1.objs.size)).get? b = some u := fun b u z => Heap.get?_push_of_some _ (Heap.get?_push_of_some _ z)
  have made : ((h1.push (PySem.W.kdv_tup vals)).push (PySem.HandSPX.excO C h1.objs.size)).get? (h1.objs.size + 1) = some (PySem.HandSPX.excO C h1.objs.size) := by heap_get
  have J2 : Inv X pins σ0 (upd G (h1.objs.size + 1) (exo (h1.objs.size + 1) C none)) ⟨(h1.push (PySem.W.kdv_tup vals)).push (PySem.HandSPX.excO C h1.objs.size), gn, dw, tok, sys⟩ :=
    J1.laid (o := exo (h1.objs.size + 1) C none) (a := h1.objs.size + 1) (t' := tok) (h' := (h1.push (PySem.W.kdv_tup vals)).push (PySem.HandSPX.excO C h1.objs.size)) keep1 le1 (exo_ok made)
  have rel2 : Vals (V.ref (h1.objs.size + 1) :: ws) (Value.ref (h1.objs.size + 1) :: vals) := .cons rfl rel
  have many : (Value.ref (h1.objs.size + 1) :: vals ++ []).length = ps.length := by
    have z := rel2.length
    rw [Fn.len _ _ _ _ want1] at z
    rw [List.append_nil]
    exact z.symm
  have small : vals.length ≤ sizeLine := by
    rw [← Paired.length rel, sizeLine_eq]
    omega
  have bind2 := bi _ (Value.ref (h1.objs.size + 1) :: vals) J2.kIn many
  rw [List.append_nil] at bind2
  refine wpAny_call (PySem.HandSPX.call_own G0 hY (J1.kIn _ _ look) (PySem.W.looks_findIn J1.kIn hi) (fun self => PySem.W.bind_fn J1.kIn self ht) small
    (codeAny_mono (Fn.run _ X.stack _ _ ⟨Value.ref (h1.objs.size + 1) :: vals, []⟩ (Value.ref (h1.objs.size + 1) :: vals) _ _ (fun _ _ _ => False) (room.make C vals []) (J2.env0.make C vals []) bind2 rel2 want1) fun r t3 got => ?_))
  match r, got with
  | .error er, got => exact pass pins σ0 _ _ er t3 J2 got
  | .ok (.ret u), got =>
    obtain ⟨v, G2, os2, ag2, un2, ok2, rv, ev, dd, fs, ea, ed, free, q2⟩ := got
    subst ev
    obtain ⟨h2, gn2, dw2, tok2, sys2⟩ := t3
    obtain ⟨t0, G3, J3, k3, ne3, oe3, na3⟩ := mk_end0 (d2 := dw2) (t2 := tok2) J1 le1 keep1 un2 ok2 os2 ag2 ea ed free
    refine ⟨rv, h1.objs.size + 1, _, _, ⟨G3, gn2, dw2, tok2, sys2⟩, _, .ref C, some dd, rfl, J3, k3, ne3, oe3, ⟨rfl, rfl, fun vs z => ?_⟩, rfl, rfl, na3, rfl, ag2, raises_own O.exC O.tyC, q2⟩
    cases z
    rfl
end
theorem okXG {P : Program} {w : World} {K : PySem.W.Frag} {mg : Str → Option Value} {base : Heap} {C fI : Addr} {fd : FuncData} {qual f : Str} {st : Stmt} {p1 p2 p3 pos : Pos} (F : Fun K "__init__" qual st fI fd) (Sc : FnScope ["self", f] ["self", f] (defScope st)) (oe : OexG K C) (no : PySem.W.findIn K (.ref C) f = some none) (hb : defBody st = [.Assign [.Attribute (.Name "self" p1) f p2] (.Name f p3) pos])
    (hv : Vis (defScope st) f) (hv0 : Vis (defScope st) "self") (hd : (f == ("__debug__" : Str)) = false := by decide) (hcd : (f == ("__classdict__" : Str)) = false := by decide) : FnOk P w K mg base CX0 1 fI fd ["self", f] (spXI C f) := by
  refine F.ok Sc (fun vs H Q E h => ?_) (fun cdv A outer s H vs Q E hr h => ?_)
  · obtain ⟨a, v, rfl, _⟩ := h
    rfl
  · obtain ⟨a, v, rfl, ha, q⟩ := h
    rw [hb]
    refine ⟨_, pss_one (ps_osG (pe_var (i := 0) rfl hv0) (pe_var (i := 1) rfl hv hd hcd)), ?_⟩
    exact ⟨v, rfl, .ref a, rfl, a, C, rfl, oe, no, .inl ⟨ha, q⟩⟩
structure ExcG (P : Program) (w : World) (K : PySem.W.Frag) (mg : Str → Option Value) (base : Heap) (n : Str) (C : Addr) (f : Str) : Prop where
  oex : OexG K C
  at_ : mg n = some (.ref C)
  noF : PySem.W.findIn K (.ref C) f = some none
  ini : ∃ fI fd, PySem.W.findIn K (.ref C) "__init__" = some (some (.ref fI)) ∧ PySem.W.typeIn K (.ref fI) = some (.type "function") ∧ FnOk P w K mg base CX0 1 fI fd ["self", f] (spXI C f) ∧ Binds K fd ["self", f] []
section
variable {X : Cx} {W : WX} {ρ : REnv} {μ μ1 : Sto} {e : Expr} {pos p pos' : Pos} {d : PyData} {n f : Str} {C : Addr} {nn k : Nat} {P : Out → Prop} {rest : List Stmt}
theorem ST.raiseG (M : ExcG X.prog X.w X.K X.mg X.base n C f) (tk : L2N.Takes X W) (hr : Room k X.A) (ha : EV X e ρ μ (.dat d) μ1) (hP : P (.rse ρ μ1 C [(f, d)])) (hk : 2 ≤ k := by decide) (hc : X.calm = true := by rfl) (hg : Gl X n := by rfl)
    (hdb : (n == ("__debug__" : Str)) = false := by decide) (he : starEach [e] X.env = (false, eval e X.env) :: starEach [] X.env := by rfl) (hpl : (backTo pos (starEach [] X.env)).any (·.1) = false := by rfl) : ST X W nn (.Raise (some (.Call (.Name n p) [e] [] pos)) none pos' :: rest) ρ μ P := by
  intro w σ H D hn m s q
  obtain ⟨fI, fd, iC, tI, F, bi⟩ := M.ini
  refine ⟨_, pss_cons (L2N.ps_raise hc tk (pmk_oexG (Y := CX0) M.oex iC tI F (hr.mono hk) bi pass0 hg M.at_ (pa_cons (p_ex (e := e)) pa_nil he) hdb he hpl)) pss_never, ?_⟩
  refine ha w σ H m s _ fun v H1 m1 f1 hv => ?_
  refine ⟨by simp, fun a na => ⟨a, v, rfl, upd_same, fun dx hd hne => ⟨rfl, dx, [(f, v)], upd_same, ?_, ?_, ?_⟩⟩⟩
  · rw [upd_ne hne, upd_same]
  · rwa [upd_ne hne] at hd
  · have hd' : H1 dx = none := by rwa [upd_ne hne] at hd
    obtain ⟨m2, f2, x2⟩ := exc_end (f := f) (o1 := exo a C none) (o2 := exd dx [(f, v)]) (o3 := exo a C (some dx)) m1 hv na hd' hne
    exact Fin.rse0 (q _ hP) m2 ((s.fr f1).fr f2) (f1.trans f2) x2
end
end J
namespace J
open PySem PySem.Spec
open PyProof.Rows L2
noncomputable def greatI (l : List Int) : Int := (l.max?).getD 0
theorem great_is {l : List Int} {m : Int} (h1 : m ∈ l) (h2 : ∀ a ∈ l, a ≤ m) : greatI l = m := by
  unfold greatI
  have : l.max? = some m := List.max?_eq_some_iff.mpr ⟨h1, h2⟩
  rw [this]
  rfl
theorem cv_maxI {K : PySem.W.Frag} {μ : Sto} {l : List Int} (hne : l ≠ []) : CallV K (rMax K) [Ls (l.map PyData.int)] (Ii (greatI l)) μ := call1 fun w H v m a Q q => by
  cases a with
  | lst ha hd =>
    rw [dqAll_ints' hd] at ha
    refine ⟨_, l, rfl, SqL.of (dl_some ha).2, List.length_pos_iff.mpr hne, fun mm h1 h2 => ?_⟩
    rw [← great_is h1 h2]
    exact q _ _ m .refl (Dq.int _)
section
variable {X : Cx} {W : WX} {n : Nat} {ρ ρ1 : REnv} {μ μ1 μ2 : Sto} {P : Out → Prop} {e a b tg : Expr} {rest : List Stmt} {pos p p' pt : Pos} {x : Str} {d : PyData} {ds : List PyData} {i j : Int} {o : Res}
theorem bMaxL {l : List Int} (T : X.mg "max" = none) (hc : X.calm = true) (ha : EV X a ρ μ (Ls (l.map .int)) μ1) (hne : l ≠ []) (hg : Gl X "max" := by rfl) (hs : starEach [a] X.env = (false, eval a X.env) :: starEach [] X.env := by rfl) : EV X (.Call (.Name "max" p) [a] [] pos) ρ μ (Ii (greatI l)) μ1 :=
  EV.callB (cr_max hc) T (by decide +kernel) (AV.cons ha AV.nil hs) (cv_maxI hne) hg (by decide) (by decide) hs (by rfl)
theorem ST.augSub {k : Nat} (h0 : ρ[k]? = some (some (Ii i))) (h : EV X e ρ μ (Ii j) μ1) (hN : X.N.Nodup) (hi : X.N[k]? = some x) (hx : Loc X.env.scope x) (hr : ST X W n rest (ρ.set k (some (Ii (i - j)))) μ1 P)
    (hf : X.fn x = true ∨ X.env.scope.names.lookup x = some .local := by first | exact .inl rfl | exact .inr rfl | assumption) : ST X W n (.AugAssign (.Name x p') .Sub e pos :: rest) ρ μ P := by
  intro w σ H D hn m s q
  refine ⟨_, pss_cons (ps_aug hN hi hx (p_ex (e := e)) ip_sub hf) p_sx, ?_⟩
  obtain ⟨v, ev, hv⟩ := s.at_ k _ h0
  cases hv
  refine ⟨_, ev, ?_⟩
  refine h w σ H m s _ fun v H1 m1 f1 h1 => ?_
  cases h1
  exact ⟨i, j, rfl, rfl, hr w _ H1 D hn m1 ((s.fr f1).set (Dq.int _)) fun o ho => (q o ho).step hn f1⟩
theorem ST.asgR {is : List Nat} (h : EVR X W e ρ μ o) (hg : ∀ d μ1, o = .ok (.dat d) μ1 → ∃ ρ1, GV X tg d ρ ρ1 is ∧ ST X W n rest ρ1 μ1 P) (hr : ∀ C fs μ1, o = .rse C fs μ1 → P (.rse ρ μ1 C fs)) (hd : ∀ r μ1, o = .ok r μ1 → ∃ d, r = .dat d) (hs : swapsWithSole [tg] e pos.line X.env = pure false := by rfl) (hw : swappedStores [tg] e X.env = pure none := by rfl)
    (h1 : (assignEach [tg] X.env).map (·.2) = [assign tg X.env] := by rfl) : ST X W n (.Assign [tg] e pos :: rest) ρ μ P := by
  intro w σ H D hn m s q
  refine ⟨_, pss_cons (ps_asg (p_ex (e := e)) (p_gx (e := tg)) hs hw h1) p_sx, ?_⟩
  refine h w σ H m s _ ?_
  cases o with
  | ok r μ1 =>
    obtain ⟨d, rfl⟩ := hd r μ1 rfl
    obtain ⟨ρ1, g1, r1⟩ := hg d μ1 rfl
    intro v H1 m1 f1 hv
    refine g1 w σ H1 μ1 v m1 (s.fr f1) hv _ fun σ1 s1 _ => ?_
    exact r1 w _ H1 D hn m1 s1 fun o ho => (q o ho).step hn f1
  | rse C fs μ1 => exact fun od H1 m1 f1 hx => Fin.rse0 (q _ (hr C fs μ1 rfl)) m1 (s.fr f1) f1 hx
theorem ST.retPC {kc k2 : Nat} (ha : EV X a ρ μ (.ptr kc) μ1) (hb : EV X b ρ μ1 (.dat d) μ2) (hn0 : μ2[kc]? = some ds) (hk : n ≤ kc) (hP : P (.ret (Tp [.list ds, d]) (μ2.take n))) (hs : starEach [a, b] X.env = (false, eval a X.env) :: starEach [b] X.env := by rfl) (hs2 : starEach [b] X.env = (false, eval b X.env) :: starEach [] X.env := by rfl) : ST X W n (.Return (some (.Tuple [a, b] k2 pt)) pos :: rest) ρ μ P := by
  intro w σ H D hn m s q
  refine ⟨_, pss_cons (ps_ret (pe_tup (p_ax (e := [a, b])))) pss_never, ?_⟩
  refine (AV.cons ha (AV.cons hb AV.nil hs2) hs) w σ H m s _ fun vs H1 m1 f1 h1 => ?_
  obtain ⟨v1, us, rfl, g1, h2⟩ := h1.inv
  obtain ⟨v2, us, rfl, g2, h3⟩ := h2.inv
  obtain rfl := h3.inv0
  have c1 : Val X.K H1 (w.cut n) v1 (frz n μ2 (.ptr kc)) := val_frz m1 g1
  have c2 : Val X.K H1 (w.cut n) v2 (frz n μ2 (.dat d)) := val_frz m1 g2
  have e1 : frz n μ2 (.ptr kc) = .dat (.list ds) := by
    show (if kc < n then Ent.ptr kc else Ent.dat (.list (μ2.getD kc []))) = _
    rw [if_neg (by omega), List.getD_eq_getElem?_getD, hn0]
    rfl
  rw [e1] at c1
  refine ⟨by show 2 ≤ sizeLine; decide, fun p0 hp0 => ?_⟩
  have mc := m1.cut n
  refine q _ hP _ _ (mc.new hp0) (f1.trans (Fr.of_same (Same.new hp0))) ?_
  exact val_tup mc hp0 (.cons c1 (.cons c2 .nil))
end
end J
namespace J
open PySem PySem.Spec
open PyProof.Rows L2
theorem Mem.look {K : PySem.W.Frag} {H : Hp} {w : Wd} {μ : Sto} (m : Mem K H w μ) : Mem K H ⟨[], w.ξ⟩ [] := ⟨List.nodup_nil, rfl, (fun k a xs h1 => by simp at h1), (fun b hb => List.not_mem_nil), m.ext, m.tab⟩
theorem Mem.kept {K : PySem.W.Frag} {H H' : Hp} {w : Wd} {μ : Sto} (m : Mem K H w μ) (f : Fr [] H H') (t : LamX.Tabs (tabsK K) H') : Mem K H' w μ ∧ Fr w.α H H' := by
  have f0 : Fr w.α H H' := fun b o h _ nt => f b o h List.not_mem_nil nt
  refine ⟨⟨m.nd, m.len, fun k a xs h1 h2 => ?_, m.out, fun b hb => (m.ext b hb).elim fun o h => ⟨o, f b o h.1 List.not_mem_nil h.2.1, h.2⟩, t⟩, f0⟩
  obtain ⟨vs, h, hd⟩ := m.cell k a xs h1 h2
  exact ⟨vs, f _ _ h List.not_mem_nil (fun q z => by cases z), dqAll_mono f0.all _ _ hd⟩
noncomputable def scal : PyData → Bool
  | .none | .bool _ | .int _ | .str _ => true
  | _ => false
theorem dq_scal {H H' : Hp} {v : V} {d : PyData} (h : Dq H v d) (s : scal d = true) : Dq H' v d := by
  cases d <;> first | (cases s; done) | (cases h; constructor)
theorem dqAll_scal {H H' : Hp} : ∀ {vs : List V} {ds : List PyData}, DqAll H vs ds → ds.all scal = true → DqAll H' vs ds
  | [], [], _, _ => .nil
  | _, _, .cons a b, s => by
    rw [List.all_cons, Bool.and_eq_true] at s
    exact .cons (dq_scal a s.1) (dqAll_scal b s.2)
section
variable {X : Cx} {W : WX} {ρ : REnv} {μ μ1 : Sto} {e : Expr} {pos p : Pos} {n x : Str} {k kc : Nat} {C : ConX} {ds : List PyData} {Ce : Addr} {fs : List (Str × PyData)}
noncomputable def lookRes (o : Option (Addr × List (Str × PyData))) (μ : Sto) : Res := match o with
  | none => .ok Nn μ
  | some cf => .rse cf.1 cf.2 μ
theorem EVR.callZ {o : Option (Addr × List (Str × PyData))} (F : CalX X.prog X.w X.K X.mg X.base n k [x] C) (tk : L2N.Takes X W) (hr : Room k X.A) (ha : EV X e ρ μ (.ptr kc) μ1) (hk : μ1[kc]? = some ds) (hC : C [Ls ds] [] (lookRes o [])) (hf : ∀ cf, o = some cf → (cf.2.map (·.2)).all scal = true)
    (hg : Gl X n := by rfl) (hdb : (n == ("__debug__" : Str)) = false := by decide) (he : starEach [e] X.env = (false, eval e X.env) :: starEach [] X.env := by rfl) (hpl : (backTo pos (starEach [] X.env)).any (·.1) = false := by rfl) : EVR X W (.Call (.Name n p) [e] [] pos) ρ μ (lookRes o μ1) := by
  intro w σ H m s Q q
  obtain ⟨f, fd, G, hm, hkp, hb⟩ := F.ex
  refine ⟨fun σ H Q => AX X [e] σ H fun vs H1 => SpX X.K [x] C vs H1 Q (WE W σ), ⟨fun pins s0 σ0 H0 Q0 I h => ?_⟩, ?_⟩
  · refine wpAny_Call_Name_kw (ld_glob I hg hm ?_ hdb)
    refine PySem.W.callWith_K (h₀ := X.base) I.ok.mod.kin hkp (thn ((p_ax (e := [e])).run pos pins s0 σ0 H0 _ I h) fun us s1 ⟨vs, H1, I1, r, z⟩ => ⟨I1.kIn, run_fnS G hr hb (L2N.passAt tk σ0) I1 r z⟩) he hpl
  · refine (AV.cons ha AV.nil he) w σ H m s _ fun vs H1 m1 f1 h1 => ?_
    obtain ⟨v, us, rfl, g1, h2⟩ := h1.inv
    obtain rfl := h2.inv0
    obtain ⟨a0, ha0, rfl⟩ := g1
    obtain ⟨vs, e1, hd⟩ := m1.cell kc a0 ds ha0 hk
    have hnx : a0 ∉ (⟨[], w.ξ⟩ : Wd).all := fun z => m1.out a0 ((List.mem_append.mp z).elim (fun y => absurd y List.not_mem_nil) id) (List.mem_of_getElem? ha0)
    have hsub : Same (dl H1 w.all) (dl H1 (⟨[], w.ξ⟩ : Wd).all) := dl_sub fun b hb => (List.mem_append.mp hb).elim (fun y => absurd y List.not_mem_nil) fun y => List.mem_append_right _ y
    refine ⟨⟨[], w.ξ⟩, [], [Ls ds], lookRes o [], m1.look, .cons (Dq.lst (dl_of hnx e1) (dqAll_mono hsub _ _ hd)) .nil, rfl, hC, ?_⟩
    cases o with
    | none =>
      intro v H' m' f' h'
      cases h'
      obtain ⟨mm, ff⟩ := m1.kept f' m'.tab
      exact q .non H' mm (f1.trans ff) Dq.non
    | some cf =>
      intro od H' m' f' hx
      obtain ⟨mm, ff⟩ := m1.kept f' m'.tab
      refine q od H' mm (f1.trans ff) ?_
      cases od with
      | none => exact hx
      | some dd =>
        obtain ⟨ws, e2, nd, hn, hd2⟩ := hx
        refine ⟨ws, e2, fun z => ?_, hn, dqAll_scal hd2 (hf cf rfl)⟩
        rcases List.mem_append.mp z with z | z
        · obtain ⟨j, hj⟩ := List.mem_iff_getElem?.mp z
          have hjl : j < μ1.length := by rw [← m1.len]; exact (List.getElem?_eq_some_iff.mp hj).1
          obtain ⟨us, e3, _⟩ := mm.cell j dd μ1[j] hj (by simp [hjl])
          rw [e3] at e2
          cases e2
        · exact nd (List.mem_append_right _ z)
end
end J
namespace GT
open PySem J L2 M GL
noncomputable def strsD (ws : List Str) : PyData := .list (ws.map .str)
noncomputable def planD (x : G.Mate) : PyData := .tuple [.str (G.aim x.goal), .int x.base, .list (x.rounds.map fun r => .tuple (r.map N.clauseOf))]
noncomputable def plansK (ms : List G.Mate) : KD := ms.map fun x => (x.tag, planD x)
theorem kget_plans (ms : List G.Mate) (nm : Str) : kget (plansK ms) nm = (ms.find? fun x => decide (x.tag = nm)).map planD := by
  unfold kget plansK
  induction ms with
  | nil => rfl
  | cons x ms ih =>
    rw [List.map_cons, List.find?_cons, List.find?_cons]
    cases h : decide (x.tag = nm) with
    | true => rfl
    | false => exact ih
theorem great_long {ws : List Str} (h : ws ≠ []) : decide ((1000 : Int) < greatI (ws.map fun s => (s.length : Int))) = long ws := by
  have hne : ws.map (fun s => (s.length : Int)) ≠ [] := by simpa using h
  obtain ⟨m, hm⟩ : ∃ m, (ws.map fun s => (s.length : Int)).max? = some m := by
    cases e : (ws.map fun s => (s.length : Int)).max? with
    | none => rw [List.max?_eq_none_iff] at e; exact absurd e hne
    | some m => exact ⟨m, rfl⟩
  have hg : greatI (ws.map fun s => (s.length : Int)) = m := by
    unfold greatI
    rw [hm]
    rfl
  obtain ⟨h1, h2⟩ := List.max?_eq_some_iff.mp hm
  rw [hg]
  unfold long
  cases hl : (ws.any fun s => decide (1000 < s.length)) with
  | true =>
    obtain ⟨s, hs, hd⟩ := List.any_eq_true.mp hl
    have := of_decide_eq_true hd
    have := h2 _ (List.mem_map.mpr ⟨s, hs, rfl⟩)
    exact decide_eq_true (by omega)
  | false =>
    obtain ⟨s, hs, rfl⟩ := List.mem_map.mp h1
    have := List.any_eq_false.mp hl s hs
    exact decide_eq_false (fun z => this (decide_eq_true (by omega)))
noncomputable def resT (Ct : Addr) (μ : Sto) : RT → Res
  | none => .rse Ct [("most", .int 1000)] μ
  | some (ws, l) => .ok (Tp [strsD ws, .int (l : Int)]) μ
theorem more_far {c : G.Part} (h : c.word ≠ "call") : N.more c = .int (far c) := by
  unfold N.more far
  rw [if_neg h]
  split
  · rfl
  · split <;> rfl
end GT
namespace J
open PySem PySem.Spec
open PyProof.Rows L2
section
variable {w : World} {P : Program} {K : PySem.W.Frag} {base : Heap} {mg : Str → Option Value} {C Ct : Addr}
noncomputable abbrev nNt : List Str := ["words", "place", "clause", "deed", "remainder", "divisor", "far", "source", "text"]
theorem scNt : FnScope nNt ["words", "place", "clause"] (defScope sNextText) := ⟨rfl, rfl, rfl, by decide +kernel, rfl, by decide +kernel, by decide +kernel⟩
noncomputable def cnNt : Con := fun rs μ r μ' => ∃ (ws : List Str) (p : Nat) (c : G.Part), rs = [Ls (ws.map .str), Ii (p : Int), .dat (N.clauseOf c)] ∧ (p < ws.length ∧ ws.length ≤ 100 ∧ GT.Sh 1000 ws ∧ N.PartGood c ∧ c.word ≠ "call") ∧ r = Ss (GT.valS c ws p) ∧ μ' = μ
theorem cNt (T : Bt mg) (D : Df K mg "next_text" sNextText) : Cal P w K mg base "next_text" 1 ["words", "place", "clause"] cnNt := by
  refine D.cal scNt (fun _ _ _ _ _ _ us hl => len3 us hl fun _ _ _ => rfl) (by decide) (fun rs μ r μ' h => by obtain ⟨_, _, _, _, _, _, rfl⟩ := h; rfl) fun f cdv A outer s H E hr rs μ r μ' hC => ?_
  obtain ⟨ws, p, c, rfl, ⟨hp, hl, hs, hc, hw⟩, rfl, rfl⟩ := hC
  unfold N.clauseOf
  rw [GT.more_far hw]
  refine ST.asg (is := [3, 4, 5, 6]) (nm 2) (GV.tup (GsV.cons (GV.name (i := 3) scNt.nd rfl (Or.inl rfl) (by simp)) (GsV.cons (GV.name (i := 4) scNt.nd rfl (Or.inl rfl) (by simp)) (GsV.cons (GV.name (i := 5) scNt.nd rfl (Or.inl rfl) (by simp)) (GsV.cons (GV.name (i := 6) scNt.nd rfl (Or.inl rfl) (by simp)) GsV.nil))))) ?_
  refine ST.envK (ρ' := [some (Ls (ws.map .str)), some (Ii (p : Int)), some (Tp [.str c.word, .int c.over, .int c.by_, .int (GT.far c)]), some (Ss c.word), some (Ii c.over), some (Ii c.by_), some (Ii (GT.far c)), none, none]) rfl ?_
  unfold GT.valS
  refine ST.ifR (k := decide (c.word = "clear")) (TV.eq (tEq (d := .str c.word) (d2 := .str "clear") (nm 3) EV.str) rfl) (fun hb => ?_) (fun hb => ?_)
  · rw [if_pos (of_decide_eq_true hb)]
    exact ST.retP EV.str rfl
  · rw [if_neg (of_decide_eq_false hb)]
    refine ST.set (i := 7) (oAdd (nm 1) (nm 6)) scNt.nd rfl (Or.inl rfl) ?_
    have hth : GT.thereS ws ((p : Int) + GT.far c) = if 0 ≤ (p : Int) + GT.far c ∧ (p : Int) + GT.far c < (ws.length : Int) then ws.getD ((p : Int) + GT.far c).toNat Str.empty else Str.empty := rfl
    have hlt := GT.sh_there hs ((p : Int) + GT.far c)
    have hlp := GT.sh_getD hs p
    have atP : (ws.map PyData.str)[p]? = some (.str (ws.getD p Str.empty)) := by
      rw [List.getElem?_map, List.getD_eq_getElem?_getD, List.getElem?_eq_getElem hp]
      rfl
    have atQ : ∀ q : Int, 0 ≤ q ∧ q < (ws.length : Int) → atI (ws.map PyData.str) q = some (.str (ws.getD q.toNat Str.empty)) := fun q hq => by
      have hq2 : q.toNat < ws.length := by omega
      have h0 : (ws.map PyData.str)[q.toNat]? = some (.str (ws.getD q.toNat Str.empty)) := by
        rw [List.getElem?_map, List.getD_eq_getElem?_getD, List.getElem?_eq_getElem hq2]
        rfl
      have := at_nat h0
      rwa [show ((q.toNat : Nat) : Int) = q by omega] at this
    refine ST.set (i := 8) (r := Ss (GT.thereS ws ((p : Int) + GT.far c))) (μ1 := μ') (EV.ifx (tChainLe op_le op_lt EV.int (nm 7) (EV.eq (bLenL T (nm 0)) (by rw [List.length_map]))) (fun hk => ?_) (fun hk => ?_)) scNt.nd rfl (Or.inl rfl) ?_
    · rw [Bool.and_eq_true, decide_eq_true_eq, decide_eq_true_eq] at hk
      rw [hth, if_pos hk]
      exact ixL (nm 0) (nm 7) (atQ _ hk)
    · rw [hth, if_neg (fun z => by
        rw [decide_eq_true z.1, decide_eq_true z.2] at hk
        cases hk)]
      exact EV.str
    refine ST.ifR (k := decide (c.word = "take")) (TV.eq (tEq (d := .str c.word) (d2 := .str "take") (nm 3) EV.str) rfl) (fun ht => ?_) (fun ht => ?_)
    · rw [if_pos (of_decide_eq_true ht)]
      exact ST.retP (nm 8) rfl
    · rw [if_neg (of_decide_eq_false ht)]
      refine ST.retP (ν := μ') (r' := Ss (if GT.far c < 0 then GT.thereS ws ((p : Int) + GT.far c) ++ ws.getD p Str.empty else ws.getD p Str.empty ++ GT.thereS ws ((p : Int) + GT.far c))) (EV.ifx (tLt (nm 6) EV.int) (fun hk => ?_) (fun hk => ?_)) rfl
      · rw [if_pos (of_decide_eq_true hk)]
        exact oAddS (nm 8) (ixL (nm 0) (nm 1) (at_nat atP)) (sz (by omega))
      · rw [if_neg (of_decide_eq_false hk)]
        exact oAddS (ixL (nm 0) (nm 1) (at_nat atP)) (nm 8) (sz (by omega))
theorem scCl : FnScope ["words", "word"] ["words"] (defScope sCheckLengths) := ⟨rfl, rfl, rfl, by decide +kernel, rfl, by decide +kernel, by decide +kernel⟩
noncomputable def longR (Ct : Addr) (ws : List Str) : Option (Addr × List (Str × PyData)) := if GT.long ws = true then some (Ct, [("most", .int 1000)]) else none
noncomputable def cnCl (Ct : Addr) : ConX := fun rs μ o => ∃ ws : List Str, rs = [Ls (ws.map .str)] ∧ (ws ≠ [] ∧ ws.length ≤ 100 ∧ GT.Sh 100000 ws) ∧ o = lookRes (longR Ct ws) μ
theorem cCl (T : Bt mg) (hM : ∃ t, mg "MOST_SIGNS" = some (.int 1000 t)) (Ei : ExcG P w K mg base "TooLong" Ct "most") (D : Df K mg "check_lengths" sCheckLengths) : CalX P w K mg base "check_lengths" 3 ["words"] (cnCl Ct) := by
  refine D.calX scCl (fun _ _ _ _ _ _ us hl => len1 us hl fun _ => rfl) (by decide) fun f cdv A outer s0 H E hr rs μ o hC => ?_
  obtain ⟨ws, rfl, ⟨hne, hl, hs⟩, rfl⟩ := hC
  have tk : L2N.Takes (cxOf (L2N.CX P w) P w K mg base ["words", "word"] "check_lengths" (defScope sCheckLengths) f cdv A outer s0 H E) (fun cls d _ H => E cls d H) := L2N.takes_of rfl rfl rfl rfl
  have hlen : EV (cxOf (L2N.CX P w) P w K mg base ["words", "word"] "check_lengths" (defScope sCheckLengths) f cdv A outer s0 H E) (.Name "words" ⟨0, 0, 0, 0⟩) [some (Ls (ws.map .str)), none] μ (Ls (ws.map .str)) μ := nm 0
  clear hlen
  refine ST.ifX (k := GT.long ws) (TV.eq (tGt (bMaxL (l := ws.map fun s => (s.length : Int)) T.max rfl (EV.eq (LCV.evf (own := [("word", 1)]) (LCV.mapT (bs := ws) (fun s => PyData.str s) (fun s => PyData.int (s.length : Int)) (IV.lst (nm 0)) (fun s hm => ⟨_, fun _ _ _ _ _ => GV.name (i := 1) scCl.nd rfl (Or.inl rfl) (by simp), fun _ _ _ _ _ => bLenS T (nm 1) (sz (Nat.le_trans (hs s hm) (by decide)))⟩) (by omega)) rfl scCl.nd (blkOk_by (N := ["words", "word"]) (sc := defScope sCheckLengths) (by decide +kernel))).ev (by rw [List.map_map]; rfl)) (by simpa using hne)) (gI hM)) (GT.great_long hne)) (fun hk => ?_) (fun hk => ?_)
  · refine ST.raiseG Ei tk hr (d := .int 1000) (gI hM) ?_
    show _ = _
    unfold longR
    rw [if_pos hk, List.take_length]
    rfl
  · refine ST.nil ⟨[], μ, ?_, rfl, (List.append_nil _).symm⟩
    unfold longR
    rw [if_neg (by rw [hk]; decide)]
    rfl
noncomputable def cnGtL : Con := fun rs μ r μ' => ∃ (g : Str × Int) (ws : List Str), rs = [Ss (G.aim g), Ls (ws.map .str)] ∧ (GL.Gg g ∧ ws.length ≤ 100 ∧ GT.Sh 1000 ws) ∧ r = Ls ((GT.dueS g ws).map .str) ∧ μ' = μ
theorem cGtL (T : Bt mg) (C1 : Cal P w K mg base "goal_span" 2 ["goal", "place"] cnGs) (D : Df K mg "goal_texts" sGoalTexts) : Cal P w K mg base "goal_texts" 3 ["goal", "words"] cnGtL := by
  refine D.cal scGtx (fun _ _ _ _ _ _ us hl => len2 us hl fun _ _ => rfl) (by decide) (fun rs μ r μ' h => by obtain ⟨_, _, _, _, _, rfl⟩ := h; rfl) fun f cdv A outer s H E hr rs μ r μ' hC => ?_
  obtain ⟨g, ws, rfl, ⟨hg, hl, hs⟩, rfl, rfl⟩ := hC
  refine ST.lc (i := 2) (own := [("place", 3)]) (LCV.mapT (bs := List.range ws.length) (fun (k : Nat) => PyData.int (0 + (k : Int))) (fun (k : Nat) => PyData.tuple [.int (GR.from_ g k : Int), .int (GR.to_ g k : Int)]) (IV.eqD (IV.rng1 (j := (ws.length : Int)) (EV.eq (bLenL T (nm 1)) (by rw [List.length_map])) (by omega) (by omega) T.range) (by rw [Int.toNat_natCast]; rfl)) (fun k hk => ⟨_, fun _ _ _ _ _ => GV.name (i := 3) scGtx.nd rfl (Or.inl rfl) (by simp), fun _ _ _ _ _ => EV.call C1 hr (AV.cons (nm 0) (AV.cons (nm 3) AV.nil)) ⟨g, k, by rw [Int.zero_add], hg, rfl, rfl⟩⟩) (by rw [List.length_range]; omega)) rfl scGtx.nd rfl rfl (blkOk_by (N := nGtx) (sc := defScope sGoalTexts) (by decide +kernel)) ?_ rfl
  refine ST.retP (r' := Ls ((GT.dueS g ws).map .str)) (EV.eq (LCV.evf (own := [("start", 4), ("end", 5)]) (LCV.mapT (bs := List.range ws.length) (fun (k : Nat) => PyData.tuple [.int (GR.from_ g k : Int), .int (GR.to_ g k : Int)]) (fun (k : Nat) => PyData.str (GR.dueT g ws k)) (IV.lst (nm 2)) (fun k hk => ⟨_, fun _ _ _ _ _ => GV.tup (GsV.cons (GV.name (i := 4) scGtx.nd rfl (Or.inl rfl) (by simp)) (GsV.cons (GV.name (i := 5) scGtx.nd rfl (Or.inl rfl) (by simp)) GsV.nil)), fun _ _ _ _ _ => ?_⟩) (by rw [List.length_range]; omega)) rfl scGtx.nd (blkOk_by (N := nGtx) (sc := defScope sGoalTexts) (by decide +kernel))).ev (by unfold GT.dueS; rw [List.map_map]; rfl)) rfl
  have hkl := List.mem_range.mp hk
  have hto : GR.to_ g k ≤ ws.length := by
    unfold GR.to_
    split <;> omega
  refine EV.join (ys := (ws.take (GR.to_ g k)).drop (GR.from_ g k)) EV.str (EV.eq (EV.slL (nm 1) (PartV.some (nm 4)) (PartV.some (nm 5))) (congrArg Ls (cutSE PyData.str ws _ _ hto))) ?_
  have hys : ∀ s ∈ (ws.take (GR.to_ g k)).drop (GR.from_ g k), s.length ≤ 1000 := fun s h => hs s (List.mem_of_mem_take (List.mem_of_mem_drop h))
  have hsum := sum_le (fun s : Str => s.length) 1000 _ hys
  have hyl : ((ws.take (GR.to_ g k)).drop (GR.from_ g k)).length ≤ 100 := by
    rw [List.length_drop, List.length_take]
    omega
  have e0 : (Str.empty).length = 0 := rfl
  have hz0 : ((ws.take (GR.to_ g k)).drop (GR.from_ g k)).length * (Str.empty).length = 0 := by rw [e0, Nat.mul_zero]
  omega
end
end J
namespace J
open PySem PySem.Spec
open PyProof.Rows L2
noncomputable def pm {α : Type} (is : List Nat) (l : List α) : List α := is.filterMap fun i => l[i]?
end J
namespace J
open PySem PySem.Spec
open PyProof.Rows L2
theorem vas_same {K : PySem.W.Frag} {H H2 : Hp} {w w2 : Wd} {vs : List V} {rs : List Ent} (hα : w2.α = w.α) (h1 : Vas K H w vs rs) (g : Same (dl H w.all) (dl H2 w2.all)) : Vas K H2 w2 vs rs := by
  refine ⟨h1.1, fun i v r a b => ?_⟩
  have hv := h1.2 i v r a b
  cases r with
  | dat d => exact dq_mono g _ _ hv
  | ptr k =>
    obtain ⟨y, a1, a2⟩ := hv
    exact ⟨y, by rw [hα]; exact a1, a2⟩
  | obj C2 fs2 =>
    obtain ⟨y, dy, ws, a1, a2, a3, a4⟩ := hv
    exact ⟨y, dy, ws, a1, g _ _ a2, a3, dqAll_mono g _ _ a4⟩
  | scr ns =>
    obtain ⟨y, a1, a2⟩ := hv
    refine ⟨y, a1, ?_⟩
    rcases a2 with (a2 | ⟨o, a2⟩) | a2
    · exact .inl (.inl (g _ _ a2))
    · exact .inl (.inr ⟨o, g _ _ a2⟩)
    · exact .inr a2
  | raw u => exact hv
  | exc a d fs2 =>
    obtain ⟨a1, ws, a2, a3, a4⟩ := hv
    exact ⟨a1, ws, g _ _ a2, a3, dqAll_mono g _ _ a4⟩
end J
namespace J
open PySem PySem.Spec
open PyProof.Rows L2
section
variable {X : Cx} {CX1 : CXT} {k : Nat} {f C : Addr} {fd : FuncData} {ps : List Str} {sp : Sp} {E : L2.St → XK} {m : Str} {pos apos : Pos} {o : Expr} {ta : TE}
theorem pe_methS0 {pl : Sem Bool} (he : PE X o ta) (c : Cls X.K C) (hm : Meth X.K C m f) (F : FnOk X.prog X.w X.K X.mg X.base CX1 k f fd ps sp) (hr : Room k X.A) (hb : Binds X.K fd ps []) (hx : ∀ σ, PassesAt CX1 X σ (E σ))
    (ht : eval (.Call (.Attribute o m apos) [] [] pos) X.env = (do
      let ov ← eval o X.env
      standAt apos.atName
      let (f, first) ← holding [ov] (getMethod ov m pl)
      callWith pos f first (backTo pos (starEach [] X.env)) (backToKw pos (keywordEach [] X.env))) := by rfl) :
    PE X (.Call (.Attribute o m apos) [] [] pos) (tMethS C m sp E ta tNil) := by
  refine ⟨fun pins s σ H Q I h => ?_⟩
  refine PySem.W.methodCall_KW (pl := pl) (thn (he.run pins s σ H _ I h) fun u s1 hpat => ?_) ht
  obtain ⟨x, H1, I1, rx, a, dx, fs, ex, ea, l, q⟩ := hpat
  subst ex
  obtain rfl : u = Value.ref a := rx
  exact getmeth_ok I1 ea c hm l (PySem.W.callWith_K0 (first := [.ref a]) I1.kIn hm.kp (run_fnS (us := [.ref a]) (vs := [.ref a]) F hr hb (hx σ) I1 (.cons rfl .nil) q))
end
section
variable {X : Cx} {W : WX} {ρ : REnv} {μ μ1 μ2 : Sto} {o : Expr} {C : Addr} {fs : List (Str × PyData)} {m : Str} {k : Nat} {cn : ConX} {cm : Con} {r : Ent} {oo : Res} {pos apos : Pos}
theorem EVR.meth0 {pl : Sem Bool} (ho : EV X o ρ μ (.obj C fs) μ1) (cl : Cls X.K C) (hm : MthX X.prog X.w X.K X.mg X.base C m k ["self"] cn) (tk : L2N.Takes X W) (hr : Room k X.A) (hl : fs.lookup m = none) (hC : cn [.obj C fs] μ1 oo)
    (ht : eval (.Call (.Attribute o m apos) [] [] pos) X.env = (do
      let ov ← eval o X.env
      standAt apos.atName
      let (f, first) ← holding [ov] (getMethod ov m pl)
      callWith pos f first (backTo pos (starEach [] X.env)) (backToKw pos (keywordEach [] X.env))) := by rfl) : EVR X W (.Call (.Attribute o m apos) [] [] pos) ρ μ oo := by
  intro w σ H m0 s Q q
  obtain ⟨g, fd, F, me, bi⟩ := hm.ex
  refine ⟨_, pe_methS0 (E := WE W) (pl := pl) (p_ex (e := o)) cl me F hr bi (fun σ => L2N.passAt tk σ) ht, ?_⟩
  refine ho w σ H m0 s _ fun v H1 m1 f1 h1 => ?_
  have h1' := h1
  obtain ⟨x, dx, ws, rfl, hx, hn, hd⟩ := h1
  refine ⟨x, dx, ws, rfl, (dl_some hx).2, lk_none hn hl, ?_⟩
  refine ⟨w, μ1, [.obj C fs], oo, m1, Vas.cons (r := .obj C fs) h1' .nil, rfl, hC, ?_⟩
  cases oo with
  | ok r μ3 => exact fun v H3 m3 f3 h3 => q v H3 m3 (f1.trans f3) h3
  | rse C fs μ3 => exact fun od H3 m3 f3 h3 => q od H3 m3 (f1.trans f3) h3
end
noncomputable def putFd (f : Str) (d : PyData) : List (Str × PyData) → List (Str × PyData)
  | [] => [(f, d)]
  | (g, e) :: fs => if g = f then (f, d) :: fs else (g, e) :: putFd f d fs
theorem putFd_rel {H : Hp} {f : Str} {v : V} {d : PyData} : ∀ {ws : List (Str × V)} {fs : List (Str × PyData)}, ws.map (·.1) = fs.map (·.1) → DqAll H (ws.map (·.2)) (fs.map (·.2)) → Dq H v d → (putF f v ws).map (·.1) = (putFd f d fs).map (·.1) ∧ DqAll H ((putF f v ws).map (·.2)) ((putFd f d fs).map (·.2)) ∧ (putF f v ws).length ≤ ws.length + 1
  | [], [], _, _, hv => ⟨rfl, .cons hv .nil, Nat.le_refl _⟩
  | [], _ :: _, h, _, _ => by simp at h
  | _ :: _, [], h, _, _ => by simp at h
  | (g, y) :: ws, (g', e) :: fs, h, hd, hv => by
    rw [List.map_cons, List.map_cons, List.cons.injEq] at h
    obtain ⟨h1, h2⟩ := h
    dsimp only at h1
    subst h1
    cases hd with
    | cons a b =>
      unfold putF putFd
      by_cases z : g = f
      · rw [if_pos z, if_pos z]
        exact ⟨by rw [List.map_cons, List.map_cons, h2]; show g :: _ = f :: _; rw [z], .cons hv b, by simp⟩
      · rw [if_neg z, if_neg z]
        obtain ⟨q1, q2, q3⟩ := putFd_rel h2 b hv
        exact ⟨by rw [List.map_cons, List.map_cons, q1], .cons a q2, by simp only [List.length_cons]; omega⟩
noncomputable def SM (X : Cx) (W : WX) (n i : Nat) (C : Addr) (sts : List Stmt) (ρ : REnv) (μ : Sto) (fs : List (Str × PyData)) (P : Out → Prop) : Prop :=
  ∀ w0 x dx σ H0 H (D : Ends), n ≤ w0.α.length → H0 x = none → x ∉ w0.all → (∀ b o, H0 b = some o → b ∉ w0.α → Nt o → H b = some o) → Mem X.K H (wk' w0 x) μ → Sl X.K H (wk' w0 x) σ ρ → σ[i]? = some (some (.ref x)) → InO H (wk' w0 x) x dx C fs →
    (∀ o, P o → Fin X W n w0 H0 D o) → SX X sts D σ H
section
variable {X : Cx} {W : WX} {n i : Nat} {ρ : REnv} {μ μ1 : Sto} {e : Expr} {es : List Expr} {rest : List Stmt} {pos p p0 p1 p2 p' : Pos} {rs : List Ent} {d : PyData} {x f sn nm : Str} {C : Addr} {fs : List (Str × PyData)} {P : Out → Prop} {k : Nat} {ps : List Str} {con : List Ent → Sto → List (Str × PyData) → Prop}
theorem SM.fld (h : EV X e ρ μ (.dat d) μ) (hself : PE X (.Name sn p1) (tVar i)) (cl : Cls X.K C) (na : NoAttr X.K C f) (hl : fs.length < 1000) (hr : SM X W n i C rest ρ μ (putFd f d fs) P) (hs : swapsWith e (some (.Attribute (.Name sn p1) f p2)) pos.line X.env = pure false := by rfl) : SM X W n i C (.Assign [.Attribute (.Name sn p1) f p2] e pos :: rest) ρ μ fs P := by
  intro w0 x dx σ H0 H D hn hx0 hxa hk m s hs0 hI q
  refine ⟨_, pss_cons (ps_fld hself (p_ex (e := e)) hs) p_sx, ?_⟩
  refine h (wk' w0 x) σ H m s _ fun v H1 m1 f1 h1 => ?_
  obtain ⟨ws, i1, i2, i3⟩ := hI.fr m f1
  have hwl : ws.length = fs.length := by
    have := congrArg List.length i2
    rwa [List.length_map, List.length_map] at this
  refine ⟨.ref x, hs0, x, C, dx, ws, rfl, i1, cl, na, by omega, ?_⟩
  have g : Same (dl H1 (wk' w0 x).all) (dl (upd H1 x (.ins C dx (putF f v ws))) (wk' w0 x).all) := same_outs
  obtain ⟨q1, q2, _⟩ := putFd_rel i2 (dqAll_mono g _ _ i3) (dq_mono g _ _ h1)
  refine hr w0 x dx σ H0 _ D hn hx0 hxa (fun b o eb nb nt => ?_) m1.outs ((s.fr f1).same g) hs0 ⟨_, upd_same, q1, q2⟩ q
  rw [upd_ne (ne_of_none eb hx0)]
  exact f1 b o (hk b o eb nb nt) nb nt
theorem SM.ret (hv : PE X (.Name sn p1) (tVar i)) (hP : P (.ret (.obj C fs) (μ.take n))) : SM X W n i C [.Return (some (.Name sn p1)) pos] ρ μ fs P := by
  intro w0 x dx σ H0 H D hn hx0 hxa hk m s hs0 hI q
  refine ⟨_, pss_cons (ps_ret hv) pss_never, ?_⟩
  obtain ⟨ws, e2, n2, d2⟩ := hI
  have m0 := m.unkeep
  refine ⟨_, hs0, ?_⟩
  refine q _ hP (.ref x) H (m0.cut n) hk ?_
  have hv0 : Val X.K H w0 (.ref x) (.obj C fs) := ⟨x, dx, ws, rfl, dl_of hxa e2, n2, dqAll_mono (dl_sub fun b hb => all_wk'.mpr (.inr hb)) _ _ d2⟩
  exact val_frz m0 hv0
theorem ST.mutMk (M : MakF X.prog X.w X.K X.mg X.base nm C k ps con) (hr0 : Room (k + 1) X.A) (ha : AV X (e :: es) ρ μ rs μ1) (hC : con rs μ1 fs) (hN : X.N.Nodup) (hi : X.N[i]? = some x) (hx : Loc X.env.scope x) (hρ : ρ[i]? = some none) (hr : SM X W n i C rest ρ μ1 fs P) (hg : Gl X nm := by rfl) (hst : starEach (e :: es) X.env = (false, eval e X.env) :: starEach es X.env := by rfl) (hdb : (nm == ("__debug__" : Str)) = false := by decide)
    (hpl : (backTo p (starEach es X.env)).any (·.1) = false := by rfl) (hs : swapsWith (.Call (.Name nm p0) (e :: es) [] p) (some (.Name x p')) pos.line X.env = pure false := by rfl)
    (hf : X.fn x = true ∨ X.env.scope.names.lookup x = some .local := by first | exact .inl rfl | exact .inr rfl | assumption) : ST X W n (.Assign [.Name x p'] (.Call (.Name nm p0) (e :: es) [] p) pos :: rest) ρ μ P := by
  intro w σ H D hn m s q
  obtain ⟨g, fd, F, mk, hm, bi⟩ := M.ex
  refine ⟨_, pss_cons (ps_set hN hi hx (pe_make (E := E0) mk F hr0 hg hm bi .nil pass0 (p_ax (e := e :: es)) hdb hst hpl) hs hf) p_sx, ?_⟩
  refine ha w σ H m s _ fun vs H1 m1 f1 h1 => ?_
  intro y dx hy hdx hne
  have hS : Same H1 (upd (upd H1 dx (.own y)) y (.ins C dx [])) := fun b u eb => by
    rw [upd_ne (ne_of_none eb hy), upd_ne (ne_of_none eb hdx)]
    exact eb
  have g := keep_out (K := X.K) (w := w) hy (Fr.of_same hS) ⟨_, upd_same⟩
  refine ⟨y, dx, vs, w, μ1, rs, fs, by rw [List.append_nil], make_mem m1 hy hdx hne, vas_same (w := w) (w2 := wk' w y) rfl h1 g, ⟨[], upd_same, rfl, .nil⟩, hC, fun H2 m2 f2 i2 => ⟨rfl, ?_⟩⟩
  have hya : y ∉ w.all := m1.freshA hy
  have hlen : i < σ.length := by
    have := (List.getElem?_eq_some_iff.mp hρ).1
    rw [s.len]
    exact this
  have kp : ∀ b o, H1 b = some o → b ∉ w.α → Nt o → H2 b = some o := fun b o eb nb nt => f2 b o (ne_of_none eb hy) (hS b o eb) nb nt
  have g2 : Same (dl H1 w.all) (dl H2 (wk' w y).all) := keep_out (K := X.K) (w := w) hy kp (i2.elim fun ws z => ⟨_, z.1⟩)
  refine hr w y dx (σ.set i (some (.ref y))) H1 H2 D hn hy hya kp m2 ?_ (by rw [List.getElem?_set_self hlen]) i2 fun o ho => (q o ho).step hn f1
  have s1 := (s.fr f1).same2 g2
  refine ⟨by rw [List.length_set]; exact s1.len, fun j r hj => ?_⟩
  by_cases z : i = j
  · subst z
    rw [hρ] at hj
    cases hj
  · rw [List.getElem?_set_ne z]
    exact s1.at_ j r hj
end
end J
namespace J
open PySem PySem.Spec
open PyProof.Rows L2
noncomputable def frzE (k : Nat) (μ : Sto) (ρ : REnv) : REnv := ρ.map (Option.map (frz k μ))
theorem sl_frz {K : PySem.W.Frag} {H : Hp} {w : Wd} {μ : Sto} {σ : L2.St} {ρ : REnv} (m : Mem K H w μ) (s : Sl K H w σ ρ) (k : Nat) : Sl K H (w.cut k) σ (frzE k μ ρ) := by
  refine ⟨by rw [s.len]; unfold frzE; rw [List.length_map], fun i r h => ?_⟩
  unfold frzE at h
  rw [List.getElem?_map] at h
  cases e : ρ[i]? with
  | none => rw [e] at h; cases h
  | some q =>
    rw [e] at h
    cases q with
    | none => cases h
    | some r0 =>
      cases h
      obtain ⟨v, hv, h2⟩ := s.at_ i r0 e
      exact ⟨v, hv, val_frz m h2⟩
theorem cut_cut {w : Wd} {n k : Nat} (h : n ≤ k) : (w.cut k).cut n = w.cut n := by
  show (⟨(w.α.take k).take n, w.ξ⟩ : Wd) = ⟨w.α.take n, w.ξ⟩
  rw [List.take_take, Nat.min_eq_left h]
section
variable {X : Cx} {W : WX} {n : Nat} {ρ ρ' : REnv} {μ ν ν2 : Sto} {P : Out → Prop} {e : Expr} {rest : List Stmt} {pos : Pos} {r : Ent}
theorem ST.retZ (k : Nat) (hk : n ≤ k) (e1 : frzE k μ ρ = ρ') (e2 : μ.take k = ν) (h : EV X e ρ' ν r ν2) (hP : P (.ret (frz n ν2 r) (ν2.take n))) : ST X W n (.Return (some e) pos :: rest) ρ μ P := by
  subst e1 e2
  intro w σ H D hn m s q
  refine ⟨_, pss_cons (ps_ret (p_ex (e := e))) pss_never, ?_⟩
  refine h (w.cut k) σ H (m.cut k) (sl_frz m s k) _ fun v H1 m1 f1 hv => ?_
  have m2 := m1.cut n
  have v2 := val_frz (n := n) m1 hv
  rw [cut_cut hk] at m2 v2
  exact q _ hP v H1 m2 (fun b o eb nb nt => f1 b o eb (fun z => nb (List.mem_of_mem_take z)) nt) v2
end
end J
namespace J
open PySem PySem.Spec
open PyProof.Rows L2
end J
namespace GT
open PySem J L2 M GL
structure SpotF (c : G.Part) (p : Nat) (o : Int) : Prop where
  eo : o = (p : Int) + far c
  wd : c.word = "join" ∨ c.word = "take"
  ne : far c ≠ 0
theorem spot_f {c : G.Part} (hc : N.PartGood c) (hw : c.word ≠ "call") (hcl : c.word ≠ "clear") {p : Nat} {o : Int} (eo : o = if decide (c.side = "left") = true then (p : Int) - c.far else (p : Int) + c.far) : SpotF c p o := by
  rcases hc.k with k | k | k
  · exact absurd k.1 hw
  · exact absurd k.1 hcl
  · obtain ⟨k1, k2, k3, k4, _⟩ := k
    have lr : ("left" : Str) ≠ "right" := by decide +kernel
    rcases k2 with z | z
    · have hz : far c = -c.far := by
        unfold far
        rw [if_neg hcl, if_neg (by rw [z]; exact lr)]
      rw [if_pos (decide_eq_true z)] at eo
      exact ⟨by rw [hz, eo]; omega, k1, by rw [hz]; omega⟩
    · have hz : far c = c.far := by
        unfold far
        rw [if_neg hcl, if_pos z]
      rw [if_neg (by rw [z]; rw [decide_eq_false lr.symm]; decide)] at eo
      exact ⟨by rw [hz, eo], k1, by rw [hz]; omega⟩
theorem emp_l (s : Str) : Str.empty ++ s = s := by
  show (⟨#[] ++ s.cps⟩ : Str) = s
  rw [Array.empty_append]
theorem emp_r (s : Str) : s ++ Str.empty = s := by
  show (⟨s.cps ++ #[]⟩ : Str) = s
  rw [Array.append_empty]
theorem there_in {ws : List Str} {q : Int} (h : 0 ≤ q ∧ q < (ws.length : Int)) : thereS ws q = ws.getD q.toNat Str.empty := if_pos h
theorem there_out {ws : List Str} {q : Int} (h : ¬ (0 ≤ q ∧ q < (ws.length : Int))) : thereS ws q = Str.empty := if_neg h
end GT
namespace J
open PySem PySem.Spec
open PyProof.Rows L2
section
variable {w : World} {P : Program} {K : PySem.W.Frag} {base : Heap} {mg : Str → Option Value}
noncomputable abbrev nSp : List Str := ["_law_part", "_law_row", "_law_k", "_law_word", "_law_over", "_law_by", "_law_side", "_law_far", "_law_tag_here", "_law_other"]
theorem scSp : FnScope nSp ["_law_part", "_law_row", "_law_k"] (defScope sLSpot) := ⟨rfl, rfl, rfl, by decide +kernel, rfl, by decide +kernel, by decide +kernel⟩
noncomputable def cnSp : Con := fun rs μ r μ' => ∃ (c : G.Part) (ws : List Str) (p : Nat), rs = [.dat c.d, Ls (ws.map .str), Ii (p : Int)] ∧ (p < ws.length ∧ ws.length ≤ 100 ∧ GT.Sh 1000 ws ∧ N.PartGood c ∧ c.word ≠ "call") ∧ r = Ss (GT.valS c ws p) ∧ μ' = μ
theorem cSp (T : Bt mg) (D : Df K mg "_law_spot" sLSpot) : Cal P w K mg base "_law_spot" 1 ["_law_part", "_law_row", "_law_k"] cnSp := by
  refine D.cal scSp (fun _ _ _ _ _ _ us hl => len3 us hl fun _ _ _ => rfl) (by decide) (fun rs μ r μ' h => by obtain ⟨_, _, _, _, _, _, rfl⟩ := h; rfl) fun f cdv A outer s H E hr rs μ r μ' hC => ?_
  obtain ⟨c, ws, p, rfl, ⟨hp, hl, hs, hc, hw⟩, rfl, rfl⟩ := hC
  refine ST.asg (d := .tuple [.str c.word, .int c.over, .int c.by_, .str c.side, .int c.far, .str c.tag]) (is := [3, 4, 5, 6, 7, 8]) (nm 0) (GV.tup (GsV.cons (GV.name (i := 3) scSp.nd rfl (Or.inl rfl) (by simp)) (GsV.cons (GV.name (i := 4) scSp.nd rfl (Or.inl rfl) (by simp)) (GsV.cons (GV.name (i := 5) scSp.nd rfl (Or.inl rfl) (by simp)) (GsV.cons (GV.name (i := 6) scSp.nd rfl (Or.inl rfl) (by simp)) (GsV.cons (GV.name (i := 7) scSp.nd rfl (Or.inl rfl) (by simp)) (GsV.cons (GV.name (i := 8) scSp.nd rfl (Or.inl rfl) (by simp)) GsV.nil))))))) ?_
  refine ST.envK (ρ' := [some (.dat c.d), some (Ls (ws.map .str)), some (Ii (p : Int)), some (Ss c.word), some (Ii c.over), some (Ii c.by_), some (Ss c.side), some (Ii c.far), some (Ss c.tag), none]) rfl ?_
  have ho : ∃ o : Int, o = if decide (c.side = "left") = true then (p : Int) - c.far else (p : Int) + c.far := ⟨_, rfl⟩
  obtain ⟨o, eo⟩ := ho
  refine ST.set (i := 9) (r := Ii o) (μ1 := μ') (EV.ifx (k := decide (c.side = "left")) (TV.eq (tEq (d := .str c.side) (d2 := .str "left") (nm 6) EV.str) rfl) (fun hk => ?_) (fun hk => ?_)) scSp.nd rfl (Or.inl rfl) ?_
  · rw [eo, if_pos hk]
    exact oSub (nm 2) (nm 7)
  · rw [eo, if_neg (by rw [hk]; decide)]
    exact oAdd (nm 2) (nm 7)
  have hlp := GT.sh_getD hs p
  have atQ : ∀ q : Int, 0 ≤ q ∧ q < (ws.length : Int) → atI (ws.map PyData.str) q = some (.str (ws.getD q.toNat Str.empty)) := fun q hq => by
    have hq2 : q.toNat < ws.length := by omega
    have h0 : (ws.map PyData.str)[q.toNat]? = some (.str (ws.getD q.toNat Str.empty)) := by
      rw [List.getElem?_map, List.getD_eq_getElem?_getD, List.getElem?_eq_getElem hq2]
      rfl
    have := at_nat h0
    rwa [show ((q.toNat : Nat) : Int) = q by omega] at this
  have atP : atI (ws.map PyData.str) (p : Int) = some (.str (ws.getD p Str.empty)) := by
    have := atQ (p : Int) (by omega)
    rwa [Int.toNat_natCast] at this
  have jc : ("join" : Str) ≠ "clear" := by decide +kernel
  have tc : ("take" : Str) ≠ "clear" := by decide +kernel
  have jt : ("join" : Str) ≠ "take" := by decide +kernel
  refine ST.ifR (k := decide (c.word = "clear") || (decide (o < 0) || decide ((ws.length : Int) ≤ o))) (WV.tv (WV.orP (TV.eq (tEq (d := .str c.word) (d2 := .str "clear") (nm 3) EV.str) rfl) (WV.orP (tLt (nm 9) EV.int) (WV.or1 (tGe (nm 9) (EV.eq (bLenL T (nm 1)) (by rw [List.length_map]))))))) (fun hb => ?_) (fun hb => ?_)
  · rw [Bool.or_eq_true, Bool.or_eq_true, decide_eq_true_eq, decide_eq_true_eq, decide_eq_true_eq] at hb
    refine ST.retP (r' := Ss (GT.valS c ws p)) (ν := μ') (EV.ifx (k := decide (c.word = "join")) (TV.eq (tEq (d := .str c.word) (d2 := .str "join") (nm 3) EV.str) rfl) (fun hk => ?_) (fun hk => ?_)) rfl
    · have hj := of_decide_eq_true hk
      have hcl : c.word ≠ "clear" := by rw [hj]; exact jc
      have F := GT.spot_f hc hw hcl eo
      have hv : GT.valS c ws p = ws.getD p Str.empty := by
        unfold GT.valS
        rw [if_neg hcl, if_neg (by rw [hj]; exact jt), ← F.eo, GT.there_out (by rcases hb with z | z | z; exact absurd z hcl; omega; omega), GT.emp_l, GT.emp_r, ite_self]
      rw [hv]
      exact ixL (nm 1) (nm 2) atP
    · have hj := of_decide_eq_false hk
      have hv : GT.valS c ws p = Str.empty := by
        unfold GT.valS
        by_cases hcl : c.word = "clear"
        · rw [if_pos hcl]
        · have F := GT.spot_f hc hw hcl eo
          have ht : c.word = "take" := F.wd.resolve_left hj
          rw [if_neg hcl, if_pos ht, ← F.eo, GT.there_out (by rcases hb with z | z | z; exact absurd z hcl; omega; omega)]
      rw [hv]
      exact EV.str
  · rw [Bool.or_eq_false_iff, Bool.or_eq_false_iff, decide_eq_false_iff_not, decide_eq_false_iff_not, decide_eq_false_iff_not] at hb
    obtain ⟨hcl, h0, h1⟩ := hb
    have F := GT.spot_f hc hw hcl eo
    have hin : 0 ≤ o ∧ o < (ws.length : Int) := by omega
    have hlo := GT.sh_getD hs o.toNat
    refine ST.ifR (k := decide (c.word = "take")) (TV.eq (tEq (d := .str c.word) (d2 := .str "take") (nm 3) EV.str) rfl) (fun ht => ?_) (fun ht => ?_)
    · have hv : GT.valS c ws p = ws.getD o.toNat Str.empty := by
        unfold GT.valS
        rw [if_neg hcl, if_pos (of_decide_eq_true ht), ← F.eo, GT.there_in hin]
      rw [hv]
      exact ST.retP (ixL (nm 1) (nm 9) (atQ _ hin)) rfl
    · have hv : GT.valS c ws p = if GT.far c < 0 then ws.getD o.toNat Str.empty ++ ws.getD p Str.empty else ws.getD p Str.empty ++ ws.getD o.toNat Str.empty := by
        unfold GT.valS
        rw [if_neg hcl, if_neg (of_decide_eq_false ht), ← F.eo, GT.there_in hin]
      rw [hv]
      have hne := F.ne
      have he := F.eo
      have e1 : (if GT.far c < 0 then ws.getD o.toNat Str.empty ++ ws.getD p Str.empty else ws.getD p Str.empty ++ ws.getD o.toNat Str.empty) = ws.getD (if o < (p : Int) then o else (p : Int)).toNat Str.empty ++ ws.getD (if o > (p : Int) then o else (p : Int)).toNat Str.empty := by
        by_cases z : GT.far c < 0
        · rw [if_pos z, if_pos (by omega), if_neg (by omega), Int.toNat_natCast]
        · rw [if_neg z, if_neg (by omega), if_pos (by omega), Int.toNat_natCast]
      rw [e1]
      have hmn : ∀ q : Int, q = o ∨ q = (p : Int) → 0 ≤ q ∧ q < (ws.length : Int) := fun q hq => by omega
      refine ST.retP (oAddS (ixL (nm 1) (EV.callB (call_min2 rfl) T.min (by decide +kernel) (AV.cons (nm 2) (AV.cons (nm 9) AV.nil)) cv_min) (atQ _ (hmn _ (by split; exact .inl rfl; exact .inr rfl)))) (ixL (nm 1) (EV.callB (call_max2 rfl) T.max (by decide +kernel) (AV.cons (nm 2) (AV.cons (nm 9) AV.nil)) cv_max) (atQ _ (hmn _ (by split; exact .inl rfl; exact .inr rfl)))) ?_) rfl
      have a := GT.sh_getD hs (if o < (p : Int) then o else (p : Int)).toNat
      have b := GT.sh_getD hs (if o > (p : Int) then o else (p : Int)).toNat
      exact sz (by omega)
theorem scNo : FnScope ["_law_row", "_law_box", "_law_word"] ["_law_row", "_law_box"] (defScope sLNoted) := ⟨rfl, rfl, rfl, by decide +kernel, rfl, by decide +kernel, by decide +kernel⟩
noncomputable def boxD (st : GT.BX) : List PyData := [.int (st.1 : Int), .bool st.2]
noncomputable def cnNo : Con := fun rs μ r μ' => ∃ (ws : List Str) (kb : Nat) (st : GT.BX), rs = [Ls (ws.map .str), .ptr kb] ∧ (ws ≠ [] ∧ ws.length ≤ 100 ∧ GT.Sh 100000 ws ∧ μ[kb]? = some (boxD st)) ∧ r = Ls ((GT.noteW ws st).1.map .str) ∧ μ' = μ.set kb (boxD (GT.noteW ws st).2)
theorem cNo (T : Bt mg) (D : Df K mg "_law_noted" sLNoted) : Cal P w K mg base "_law_noted" 1 ["_law_row", "_law_box"] cnNo := by
  refine D.cal scNo (fun _ _ _ _ _ _ us hl => len2 us hl fun _ _ => rfl) (by decide) (fun rs μ r μ' h => by obtain ⟨_, _, _, _, _, _, rfl⟩ := h; simp) fun f cdv A outer s H E hr rs μ r μ' hC => ?_
  obtain ⟨ws, kb, st, rfl, ⟨hne, hl, hs, hk⟩, rfl, rfl⟩ := hC
  have hkl := (List.getElem?_eq_some_iff.mp hk).1
  unfold GT.noteW
  dsimp only
  refine ST.iff (k := GT.long ws) (TV.eq (tGt (bMaxL (l := ws.map fun s => (s.length : Int)) T.max rfl (EV.eq (LCV.evf (own := [("_law_word", 2)]) (LCV.mapT (bs := ws) (fun s => PyData.str s) (fun s => PyData.int (s.length : Int)) (IV.lst (nm 0)) (fun s hm => ⟨_, fun _ _ _ _ _ => GV.name (i := 2) scNo.nd rfl (Or.inl rfl) (by simp), fun _ _ _ _ _ => bLenS T (nm 2) (sz (Nat.le_trans (hs s hm) (by decide)))⟩) (by omega)) rfl scNo.nd (blkOk_by (N := ["_law_row", "_law_box", "_law_word"]) (sc := defScope sLNoted) (by decide +kernel))).ev (by rw [List.map_map]; rfl)) (by simpa using hne)) EV.int) (GT.great_long hne)) (fun hk1 => ?_) (fun hk1 => ?_)
  · refine ST.asgW (d := .bool true) EV.bl (GW.sub (j := 1) (nm 1) EV.int hk (show (1 : Nat) < 2 by decide)) (ST.nil ?_)
    refine ST.retP (nm 0) rfl ?_
    rw [List.take_of_length_le (by simp), hk1, Bool.or_true]
    rfl
  · refine ST.nil ?_
    refine ST.retP (nm 0) rfl ?_
    rw [List.take_length, hk1, Bool.or_false]
    exact set_same hk
noncomputable def seqE (t : Bool) (ds : List PyData) : Ent := if t then Tp ds else Ls ds
theorem bLenE {X : Cx} {ρ : REnv} {μ μ1 : Sto} {a : Expr} {p pos : Pos} {t : Bool} {ds : List PyData} (T : Bt X.mg) (ha : EV X a ρ μ (seqE t ds) μ1) (hg : Gl X "len" := by rfl) (hs : starEach [a] X.env = (false, eval a X.env) :: starEach [] X.env := by rfl) : EV X (.Call (.Name "len" p) [a] [] pos) ρ μ (Ii (ds.length : Int)) μ1 := by
  cases t with
  | true => exact bLenT T ha hg hs
  | false => exact bLenL T ha hg hs
theorem EV.slE {X : Cx} {ρ : REnv} {μ μ1 μ2 μ3 : Sto} {a : Expr} {p2 pos : Pos} {t : Bool} {ds : List PyData} {lo hi : Option Expr} {l h : Option Int} (ha : EV X a ρ μ (seqE t ds) μ1) (hl : PartV X lo ρ μ1 l μ2) (hh : PartV X hi ρ μ2 h μ3) : EV X (.Subscript a (.Slice lo hi none p2) pos) ρ μ (seqE t (cutD ds l h)) μ3 := by
  cases t with
  | true => exact EV.slT ha hl hh
  | false => exact EV.slL ha hl hh
theorem EV.joinE {X : Cx} {ρ : REnv} {μ μ1 μ2 : Sto} {o e : Expr} {apos pos : Pos} {t : Bool} {s : Str} {ys : List Str} (ho : EV X o ρ μ (Ss s) μ1) (he : EV X e ρ μ1 (seqE t (ys.map .str)) μ2) (h1 : (ys.map (·.length)).sum + ys.length * s.length ≤ 16777216)
    (hs : starEach [e] X.env = [(false, eval e X.env)] := by rfl) (hbase : attributeBase o "join" X.env (eval o X.env) = eval o X.env := by rfl) (hline : (apos.endLine == pos.line) = true := by rfl) : EV X (.Call (.Attribute o "join" apos) [e] [] pos) ρ μ (Ss (Txt.join s ys)) μ2 := by
  cases t with
  | true => exact EV.joinT ho he h1 hs hbase hline
  | false => exact EV.join ho he h1 hs hbase hline
noncomputable abbrev nDs : List Str := ["_law_goal_here", "_law_row", "_law_found", "_law_k", "_law_first"]
theorem scDs : FnScope nDs ["_law_goal_here", "_law_row"] (defScope sLDue) := ⟨rfl, rfl, rfl, by decide +kernel, rfl, by decide +kernel, by decide +kernel⟩
noncomputable def cnDs : Con := fun rs μ r μ' => ∃ (sq : Bool) (g : Str × Int) (ws : List Str), rs = [Tp [.str g.1, .int g.2], seqE sq (ws.map .str)] ∧ (GL.Gg g ∧ ws.length ≤ 100 ∧ ∀ s ∈ ws, s.length ≤ 1000) ∧ r = Ls (dueL g ws) ∧ μ' = μ
theorem cDs (T : Bt mg) (D : Df K mg "_law_due" sLDue) : Cal P w K mg base "_law_due" 1 ["_law_goal_here", "_law_row"] cnDs := by
  refine D.cal scDs (fun _ _ _ _ _ _ us hl => len2 us hl fun _ _ => rfl) (by decide) (fun rs μ r μ' h => by obtain ⟨_, _, _, _, _, _, rfl⟩ := h; rfl) fun f cdv A outer s H E hr rs μ r μ' hC => ?_
  obtain ⟨sq, g, ws, rfl, ⟨hg, hl, hs⟩, rfl, rfl⟩ := hC
  have a0 : ([PyData.str g.1, .int g.2])[0]? = some (.str g.1) := rfl
  have a1 : ([PyData.str g.1, .int g.2])[1]? = some (.int g.2) := rfl
  refine ST.cell (i := 2) (EVF.lst (ds := []) AV.nil) scDs.nd rfl (Or.inl rfl) ?_
  have cell : ∀ {xs : List PyData}, (μ' ++ [xs])[μ'.length]? = some xs := fun {xs} => at_last (μ := μ') (x := xs) (rest := [])
  have sets : ∀ {xs ys : List PyData}, (μ' ++ [xs]).set μ'.length ys = μ' ++ [ys] := fun {xs ys} => set_last (μ := μ') (x := xs) (y := ys) (rest := [])
  refine ST.envK (ρ' := [some (Tp [.str g.1, .int g.2]), some (seqE sq (ws.map .str)), some (.ptr μ'.length), none, none]) rfl ?_
  refine ST.for_ (is := [3]) (ds := rngD 0 ws.length) (IV.eqD (IV.rng1 (j := (ws.length : Int)) (EV.eq (bLenE T (nm 1)) (by rw [List.length_map])) (by omega) (by omega) T.range) (by rw [Int.toNat_natCast])) (fun i ρ ν => (∃ b3 b4, ρ = [some (Tp [.str g.1, .int g.2]), some (seqE sq (ws.map .str)), some (.ptr μ'.length), b3, b4]) ∧ ν = μ' ++ [(List.range i).map fun k => .str (GR.dueT g ws k)]) ⟨⟨_, _, rfl⟩, rfl⟩ (fun i d ρ ν hd hI => ?_) (fun ρ ν hI => ?_)
  · obtain ⟨⟨b3, b4, rfl⟩, rfl⟩ := hI
    have hi : i < ws.length := by
      have := (List.getElem?_eq_some_iff.mp hd).1
      rwa [rngD_len] at this
    obtain rfl : d = .int (i : Int) := by
      unfold rngD at hd
      rw [List.getElem?_map, List.getElem?_range hi] at hd
      cases hd
      show PyData.int (0 + (i : Int)) = _
      rw [Int.zero_add]
    rw [List.range_succ, List.map_append, List.map_cons, List.map_nil]
    have hal : ((List.range i).map fun k => PyData.str (GR.dueT g ws k)).length ≤ 1000 := by
      rw [List.length_map, List.length_range]
      omega
    generalize ((List.range i).map fun k => PyData.str (GR.dueT g ws k)) = acc at *
    refine ⟨_, GV.name (i := 3) scDs.nd rfl (Or.inl rfl) (by simp), ?_⟩
    refine ST.set (i := 4) (μ1 := μ' ++ [acc]) (r := Ii (GR.from_ g i : Int)) (EV.ifx (k := decide (g.1 = "last")) (TV.eq (tEq (d := .str g.1) (d2 := .str "last") (ixT (nm 0) EV.int (at_nat a0)) EV.str) rfl) (fun hb => ?_) (fun hb => ?_)) scDs.nd rfl (Or.inl rfl) ?_
    · have hlast := of_decide_eq_true hb
      have hg2 : 1 ≤ g.2 ∧ g.2 ≤ 4 := by
        rcases hg.k with ⟨z, _⟩ | ⟨z, _⟩ | ⟨_, z⟩
        · rw [z] at hlast; exact absurd hlast (by decide)
        · rw [z] at hlast; exact absurd hlast (by decide)
        · exact z
      have hmx : (if (i : Int) + 1 - g.2 > 0 then (i : Int) + 1 - g.2 else 0) = ((i + 1 - g.2.toNat : Nat) : Int) := by
        split <;> omega
      refine EV.eq (EV.callB (call_max2 rfl) T.max (by decide +kernel) (AV.cons EV.int (AV.cons (oSub (oAdd (nm 3) EV.int) (ixT (nm 0) EV.int (at_nat a1))) AV.nil)) cv_max) ?_
      rw [hmx]
      unfold GR.from_
      rw [if_pos hlast]
    · refine EV.eq EV.int ?_
      unfold GR.from_
      rw [if_neg (of_decide_eq_false hb)]
      rfl
    have hto : GR.to_ g i ≤ ws.length := by
      unfold GR.to_
      split <;> omega
    have hte : (i : Int) + (if (!eqS (.str g.1) (.str "before")) = true then 1 else 0) = ((GR.to_ g i : Nat) : Int) := by
      unfold GR.to_
      by_cases z : g.1 = "before"
      · rw [if_pos z, z]
        rw [if_neg (by decide)]
        omega
      · have hz : eqS (.str g.1) (.str "before") = false := by
          show (g.1 == ("before" : Str)) = false
          exact beq_eq_false_iff_ne.mpr z
        rw [if_neg z, hz]
        show (i : Int) + 1 = _
        omega
    have hys : ∀ s ∈ (ws.take (GR.to_ g i)).drop (GR.from_ g i), s.length ≤ 1000 := fun s h => hs s (List.mem_of_mem_take (List.mem_of_mem_drop h))
    have hsum := sum_le (fun s : Str => s.length) 1000 _ hys
    have hyl : ((ws.take (GR.to_ g i)).drop (GR.from_ g i)).length ≤ 100 := by
      rw [List.length_drop, List.length_take]
      omega
    have e0 : (Str.empty).length = 0 := rfl
    have hz0 : ((ws.take (GR.to_ g i)).drop (GR.from_ g i)).length * (Str.empty).length = 0 := by rw [e0, Nat.mul_zero]
    refine ST.expr (EV.app (d := .str (GR.dueT g ws i)) (nm 2) (EV.joinE (t := sq) (s := Str.empty) EV.str (EV.eq (EV.slE (nm 1) (PartV.some (nm 4)) (PartV.some (EV.eq (oAdd (nm 3) (bIntB T (cNe (d := .str g.1) (d2 := .str "before") (ixT (nm 0) EV.int (at_nat a0)) EV.str))) (congrArg Ii hte)))) (congrArg (seqE sq) (cutSE PyData.str ws _ _ hto))) (by omega)) cell hal) (ST.nil ⟨⟨_, _, rfl⟩, sets⟩)
  · obtain ⟨⟨b3, b4, rfl⟩, rfl⟩ := hI
    rw [rngD_len]
    refine ST.retP (nm 2) ?_ (by rw [List.take_append_of_le_length (Nat.le_refl _), List.take_length])
    show (if μ'.length < μ'.length then _ else Ent.dat (PyData.list (List.getD _ _ _))) = _
    rw [if_neg (by omega), List.getD_eq_getElem?_getD, cell]
    rfl
end
end J
namespace J
open PySem PySem.Spec
open PyProof.Rows L2
noncomputable def AtP (ρ : REnv) (μ : Sto) : Out → Prop
  | .nx ρ' μ' => ρ' = ρ ∧ μ' = μ
  | _ => False
section
variable {X : Cx} {W : WX} {n : Nat} {ρ ρ2 : REnv} {μ μ1 μ2 : Sto} {P : Out → Prop} {c : Expr} {body orelse rest : List Stmt} {pos : Pos} {k : Bool}
theorem ST.iffM (ρ2 : REnv) (μ2 : Sto) (h : TV X c ρ μ k μ1) (h1 : k = true → ST X W n body ρ μ1 (AtP ρ2 μ2)) (h2 : k = false → ST X W n orelse ρ μ1 (AtP ρ2 μ2)) (h3 : ST X W n rest ρ2 μ2 P) : ST X W n (.If c body orelse pos :: rest) ρ μ P := by
  have key : ∀ o, AtP ρ2 μ2 o → thenP X W n rest P o := fun o ho => by
    cases o with
    | nx ρ' μ' =>
      obtain ⟨rfl, rfl⟩ := ho
      exact h3
    | ret r μ' => exact ho.elim
    | brk ρ' μ' => exact ho.elim
    | ct ρ' μ' => exact ho.elim
    | rse ρ' μ' C fs => exact ho.elim
  exact ST.iff h (fun z => (h1 z).mono key) fun z => (h2 z).mono key
end
theorem frz_lt {n k : Nat} {μ : Sto} (h : k < n) : frz n μ (.ptr k) = .ptr k := if_pos h
theorem frz_at {n k : Nat} {μ : Sto} {xs : List PyData} (h : n ≤ k) (hk : μ[k]? = some xs) : frz n μ (.ptr k) = Ls xs := by
  show (if k < n then Ent.ptr k else .dat (.list (μ.getD k []))) = _
  rw [if_neg (by omega), List.getD_eq_getElem?_getD, hk]
  rfl
noncomputable def putN {α : Type} (ps : List Nat) (vs acc : List α) (i : Nat) : List α := ((ps.zip vs).take i).foldl (fun a q => a.set q.1 q.2) acc
theorem putN_succ {α : Type} {ps : List Nat} {vs : List α} (acc : List α) {i p : Nat} {v : α} (h1 : ps[i]? = some p) (h2 : vs[i]? = some v) : putN ps vs acc (i + 1) = (putN ps vs acc i).set p v := by
  unfold putN
  have : (ps.zip vs)[i]? = some (p, v) := by
    rw [List.getElem?_zip_eq_some]
    exact ⟨h1, h2⟩
  rw [List.take_succ, this, List.foldl_append]
  rfl
theorem putN_len {α : Type} (ps : List Nat) (vs acc : List α) (i : Nat) : (putN ps vs acc i).length = acc.length := by
  unfold putN
  generalize (ps.zip vs).take i = l
  induction l generalizing acc with
  | nil => rfl
  | cons q l ih => rw [List.foldl_cons, ih, List.length_set]
theorem putN_all {α : Type} {ps : List Nat} {vs acc : List α} {i : Nat} (h : ps.length ≤ i) : putN ps vs acc i = (ps.zip vs).foldl (fun a q => a.set q.1 q.2) acc := by
  unfold putN
  rw [List.take_of_length_le (by rw [List.length_zip]; omega)]
end J
namespace J
open PySem PySem.Spec
open PyProof.Rows L2
section
variable {X : Cx} {a b c : Expr}
noncomputable def PRgC (X : Cx) (e : Expr) (t : L2.St → Hp → (Int → Int → Int → Hp → Prop) → Prop) : Prop :=
  ∀ (pins : List (Addr × Obj)) (s : Shared) (σ : L2.St) (H : Hp) (Q : Int → Int → Int → Hp → Prop), Inv X pins σ H s → t σ H Q →
    wpAny (model X.prog X.w) X.A (eval e X.env) (fun x s' => ∃ r i j k t u v H', x = .ref r ∧ IsRange s'.heap r i j k t u v ∧ Inv X pins σ H' s' ∧ Q i j k H') X.xe s
noncomputable def tRg3 (ta : TA) : L2.St → Hp → (Int → Int → Int → Hp → Prop) → Prop := fun σ H Q => ta σ H fun vs H1 => ∃ (i j k : Int), vs = [.int i, .int j, .int k] ∧ k ≠ 0 ∧ k.natAbs < 1073741824 ∧ Q i j k H1
theorem prg_3 {ta : TA} {p pos : Pos} (hg : Gl X "range") (hm : X.mg "range" = none) (ha : PA X [a, b, c] ta)
    (hs : starEach [a, b, c] X.env = (false, eval a X.env) :: starEach [b, c] X.env := by rfl) (hpl : (backTo pos (starEach [b, c] X.env)).any (·.1) = false := by rfl) : PRgC X (.Call (.Name "range" p) [a, b, c] [] pos) (tRg3 ta) := by
  intro pins s σ H Q I h
  refine Call_ (ld_blt I hg hm boot_range (PyProof.Rows.callWith_type1 (thn (ha.run pos pins s σ H _ I h) fun us s1 hpat => ?_) hs hpl))
  obtain ⟨vs, H1, I1, r1, q1⟩ := hpat
  obtain ⟨i, j, k, e, c0, c1, q⟩ := q1
  subst e
  cases r1 with
  | cons r rr =>
    cases rr with
    | cons r' rr =>
      cases rr with
      | cons r'' rr =>
        cases rr
        obtain ⟨t, rfl⟩ := r
        obtain ⟨t', rfl⟩ := r'
        obtain ⟨t'', rfl⟩ := r''
        refine call_range_3 c0 ?_ (.inl (PyProof.noPylong_small c1))
        exact ⟨_, i, j, k, _, _, _, H1, rfl, IsRange.new .., I1.kept (t' := s1.toks) fun b o e => Heap.get?_push_of_some _ e, q⟩
noncomputable def rgVC (i k : Int) (n : Nat) : List V := (List.range n).map fun m => V.int (i + (m : Nat) * k)
theorem vals_rgC {i k : Int} {n : Nat} {acc : Array Value} (h : ItemsOf (fun m v => ∃ t, v = .int (i + m * k) t) acc n) : Vals (rgVC i k n) acc.toList := by
  have e : acc.toList.length = n := by rw [Array.length_toList]; exact h.1
  unfold rgVC
  rw [← e]
  refine vals_of_get acc.toList _ fun j u hj => ?_
  obtain ⟨t, rfl⟩ := h.2 j u (by rw [← hj, Array.getElem?_toList])
  exact ⟨t, rfl⟩
variable {e : Expr} {te : L2.St → Hp → (Int → Int → Int → Hp → Prop) → Prop}
noncomputable def tLstRgC (te : L2.St → Hp → (Int → Int → Int → Hp → Prop) → Prop) : TE := fun σ H Q => te σ H fun i j k H1 => ∃ n, Builtin.Range.small i j k = true ∧ Builtin.Range.rangeSize i j k = (n : Nat) ∧ n ≤ 2 ^ 24 ∧ ∀ q, H1 q = none → Q (.ref q) (upd H1 q (.lst (rgVC i k n)))
theorem pe_listRgC {p pos : Pos} (hc : X.calm = true) (hg : Gl X "list") (hm : X.mg "list" = none) (he : PRgC X e te) (na : starEach [e] X.env = (false, eval e X.env) :: starEach [] X.env := by rfl) : PE X (.Call (.Name "list" p) [e] [] pos) (tLstRgC te) := by
  refine ⟨fun pins s σ H Q I h => ?_⟩
  refine Call_ (ld_blt I hg hm boot_list (PyProof.Rows.callWith_type1 (args_cons (thn (he pins s σ H _ I h) fun x s1 hh => args_nil ?_) na) na))
  obtain ⟨r, i, j, k, t, u, v, H1, ex, hr, I1, n, b1, b2, b3, q⟩ := hh
  subst ex
  refine call_list_range (n := n) (I1.ok.hd hc) hr b1 b2 b3 fun h' tk acc c' hk e' hi => ?_
  refine ⟨.ref s1.heap.objs.size, upd H1 s1.heap.objs.size (.lst (rgVC i k n)), I1.laid hk (Nat.le_refl _) (show ObjOk X.prog X.w _ _ _ (.lst (rgVC i k n)) from ⟨?_, acc.toList, c', vals_rgC hi, ?_⟩), rfl, q _ (I1.hok.fresh (Nat.le_refl _))⟩
  · unfold rgVC
    rw [List.length_map, List.length_range, sizeLine_eq]
    exact b3
  · rw [Array.toArray_toList]; exact e'
end
section
variable {X : Cx} {W : WX} {ρ : REnv} {μ μ1 μ2 μ3 : Sto} {a b c : Expr} {pos p p2 p3 : Pos} {i j k : Int} {n n0 : Nat} {ds : List PyData} {P : Out → Prop} {rest : List Stmt} {r1 : Ent} {ys : List PyData}
theorem dq_rgC {H : Hp} {i k : Int} : ∀ (bs : List Nat), DqAll H (bs.map fun m => V.int (i + (m : Nat) * k)) (bs.map fun (m : Nat) => PyData.int (i + (m : Int) * k))
  | [] => .nil
  | _ :: bs => .cons (.int _) (dq_rgC bs)
theorem EVF.lstRgC (T : X.mg "list" = none) (T2 : X.mg "range" = none) (hc : X.calm = true) (ha : EV X a ρ μ (Ii i) μ1) (hb : EV X b ρ μ1 (Ii j) μ2) (hcc : EV X c ρ μ2 (Ii k) μ3) (h : RgC i j k n) (hn : n ≤ 100000) (hg : Gl X "list" := by rfl) (hg2 : Gl X "range" := by rfl)
    (hs : starEach [a, b, c] X.env = (false, eval a X.env) :: starEach [b, c] X.env := by rfl) (hs2 : starEach [b, c] X.env = (false, eval b X.env) :: starEach [c] X.env := by rfl) (hs3 : starEach [c] X.env = (false, eval c X.env) :: starEach [] X.env := by rfl) (hpl : (backTo p (starEach [b, c] X.env)).any (·.1) = false := by rfl)
    (hs4 : starEach [.Call (.Name "range" p2) [a, b, c] [] p] X.env = (false, eval (.Call (.Name "range" p2) [a, b, c] [] p) X.env) :: starEach [] X.env := by rfl) : EVF X (.Call (.Name "list" p3) [.Call (.Name "range" p2) [a, b, c] [] p] [] pos) ρ μ (rngC i k n) μ3 := by
  intro w σ H m s Q q
  refine ⟨_, pe_listRgC hc hg T (prg_3 hg2 T2 (pa_cons (p_ex (e := a)) (pa_cons (p_ex (e := b)) (pa_cons (p_ex (e := c)) pa_nil hs3) hs2) hs) hs hpl) hs4, ?_⟩
  refine ha w σ H m s _ fun v H1 m1 f1 hv => ?_
  cases hv
  refine hb w σ H1 m1 (s.fr f1) _ fun v H2 m2 f2 hv => ?_
  cases hv
  refine hcc w σ H2 m2 ((s.fr f1).fr f2) _ fun v H3 m3 f3 hv => ?_
  cases hv
  obtain ⟨c0, c1, c2, c3⟩ := h
  refine ⟨i, j, k, rfl, c0, c1, n, c2, c3, Nat.le_trans hn (by decide), fun l hl => ?_⟩
  have f13 := (f1.trans f2).trans f3
  have hl0 := fresh_of m3 f13 (Nw.of hl)
  exact q l _ (rgVC i k n) (m3.keep hl) (f13.trans (Fr.of_same (Same.new hl))) hl0 upd_same (dq_rgC _)
theorem EVF.lstL (T : X.mg "list" = none) (ha : EV X a ρ μ (Ls ds) μ1) (hg : Gl X "list" := by rfl) (hs : starEach [a] X.env = (false, eval a X.env) :: starEach [] X.env := by rfl) : EVF X (.Call (.Name "list" p) [a] [] pos) ρ μ ds μ1 := by
  intro w σ H m s Q q
  refine ⟨_, pe_callTy call_list_of hg T (by decide +kernel) (p_ax (e := [a])) (by decide) (by decide) hs (by rfl), ?_⟩
  refine (AV.cons ha AV.nil hs) w σ H m s _ fun vs H1 m1 f1 h1 => ?_
  obtain ⟨v, us, rfl, h2, h3⟩ := h1.inv
  rw [h3.inv0]
  cases h2 with
  | lst hb hd =>
    refine ⟨_, _, rfl, .inl (SqL.of (dl_some hb).2), fun l hl => ?_⟩
    exact q l _ _ (m1.keep hl) (f1.trans (Fr.of_same (Same.new hl))) (fresh_of m1 f1 (Nw.of hl)) upd_same (dqAll_mono (keep_out (K := X.K) hl (Fr.of_same (Same.new hl)) ⟨_, upd_same⟩) _ _ hd)
end
end J
namespace J
open PySem PySem.Spec
open PyProof.Rows L2
theorem size_le {e n d : Int} (he : 0 ≤ e) (hd : 1 ≤ d) (hn : 0 ≤ n) : 0 ≤ Builtin.Range.rangeSize e n d ∧ Builtin.Range.rangeSize e n d ≤ n ∧ (0 < Builtin.Range.rangeSize e n d → e + (Builtin.Range.rangeSize e n d - 1) * d < n) := by
  unfold Builtin.Range.rangeSize
  rw [if_pos (by omega)]
  split
  · have h1 : 0 ≤ (n - e - 1) / d := Int.ediv_nonneg (by omega) (by omega)
    have h2 : (n - e - 1) / d ≤ n - e - 1 := Int.ediv_le_self _ (by omega)
    have h3 : (n - e - 1) / d * d ≤ n - e - 1 := Int.ediv_mul_le _ (by omega)
    refine ⟨by omega, by omega, fun _ => ?_⟩
    rw [show (n - e - 1) / d + 1 - 1 = (n - e - 1) / d by omega]
    omega
  · exact ⟨Int.le_refl 0, hn, fun z => absurd z (by decide)⟩
theorem rg_gen {e n d : Int} (he : 0 ≤ e ∧ e ≤ 100) (hd : 1 ≤ d ∧ d ≤ 100) (hn : 0 ≤ n ∧ n ≤ 100000) : RgC e n d (Builtin.Range.rangeSize e n d).toNat ∧ (Builtin.Range.rangeSize e n d).toNat ≤ n.toNat := by
  obtain ⟨h1, h2, h3⟩ := size_le he.1 hd.1 hn.1
  refine ⟨⟨by omega, by omega, ?_, (Int.toNat_of_nonneg h1).symm⟩, by omega⟩
  unfold Builtin.Range.small
  generalize hz : Builtin.Range.rangeSize e n d = z at *
  simp only [Builtin.Range.rangeFitsLong, Bool.and_eq_true, Bool.or_eq_true, decide_eq_true_eq, beq_iff_eq, show d > 0 by omega, if_true]
  omega
end J
namespace J
open PySem PySem.Spec
open PyProof.Rows L2
theorem LCV.eqO {X : Cx} {elt tg iter : Expr} {ifs : List Expr} {scope : Scope} {own : List (Str × Nat)} {ρ : REnv} {μ μ1 : Sto} {out out2 : List PyData} (h : LCV X elt tg iter ifs scope own ρ μ out μ1) (q : out = out2) : LCV X elt tg iter ifs scope own ρ μ out2 μ1 := q ▸ h
section
variable {w : World} {P : Program} {K : PySem.W.Frag} {base : Heap} {mg : Str → Option Value} {C Ct : Addr}
noncomputable abbrev nNx : List Str := ["plans", "clauses", "words", "left", "after", "clause", "deed", "remainder", "divisor", "more", "part", "place"]
theorem scNx : FnScope nNx ["plans", "clauses", "words", "left"] (defScope sNextTexts) := ⟨rfl, rfl, rfl, by decide +kernel, rfl, by decide +kernel, by decide +kernel⟩
theorem scLd : FnScope ["plans", "name", "words", "left", "goal", "base", "told", "clauses"] ["plans", "name", "words", "left"] (defScope sLedTexts) := ⟨rfl, rfl, rfl, by decide +kernel, rfl, by decide +kernel, by decide +kernel⟩
noncomputable def CallOk (ms : List G.Mate) (n len : Nat) (c : G.Part) : Prop := c.word = "call" → GL.sp c len ≠ [] → ∃ (j : Nat) (y : G.Mate), ms[j]? = some y ∧ y.tag = c.tag ∧ GT.ms_ j (GL.sp c len).length ≤ n
noncomputable def cnNx (Ct : Addr) (n : Nat) : ConX := fun rs μ o => ∃ (ms : List G.Mate) (r : List G.Part) (ws : List Str) (l : Nat), rs = [.dat (dkD (GT.plansK ms)), Tp (r.map N.clauseOf), Ls (ws.map .str), Ii (l : Int)] ∧ (GT.Ok ms ∧ r.length ≤ 3 ∧ (∀ c ∈ r, N.PartGood c) ∧ (∀ c ∈ r, CallOk ms n ws.length c) ∧ 1 ≤ ws.length ∧ ws.length ≤ 12 ∧ GT.Sh 1000 ws) ∧ o = GT.resT Ct μ (GT.rndT (GT.ledT ms n) r ws ws l)
noncomputable def cnLd (Ct : Addr) (n : Nat) : ConX := fun rs μ o => ∃ (ms : List G.Mate) (nm : Str) (ws : List Str) (l : Nat), rs = [.dat (dkD (GT.plansK ms)), Ss nm, Ls (ws.map .str), Ii (l : Int)] ∧ (GT.Ok ms ∧ (∃ (j : Nat) (y : G.Mate), ms[j]? = some y ∧ y.tag = nm ∧ GT.ms_ j ws.length ≤ n) ∧ 1 ≤ ws.length ∧ ws.length ≤ 12 ∧ GT.Sh 1000 ws) ∧ o = GT.resT Ct μ (GT.ledT ms n nm ws l)
theorem rg_part {c : G.Part} (h : N.PartGood c) {n : Nat} (hn : n ≤ 12) : RgC c.over (n : Int) c.by_ (Builtin.Range.rangeSize c.over (n : Int) c.by_).toNat ∧ (Builtin.Range.rangeSize c.over (n : Int) c.by_).toNat ≤ n := by
  obtain ⟨b1, b3⟩ := h.b
  obtain ⟨o0, o1⟩ := h.o
  exact rg_gen ⟨o0, by omega⟩ ⟨b1, by omega⟩ ⟨Int.natCast_nonneg n, by omega⟩
theorem part_one {c : G.Part} (h : N.PartGood c) : 0 < c.by_ ∧ (c.by_ = 1 → c.over = 0) := by
  obtain ⟨b1, b3⟩ := h.b
  obtain ⟨o0, o1⟩ := h.o
  exact ⟨b1, fun z => by omega⟩
theorem cNx (T : Bt mg) {n k : Nat} (hk4 : 4 ≤ k) (C1 : Cal P w K mg base "next_text" 1 ["words", "place", "clause"] cnNt) (C2 : CalX P w K mg base "check_lengths" 3 ["words"] (cnCl Ct)) (C3 : CalX P w K mg base "led_texts" k ["plans", "name", "words", "left"] (cnLd Ct n)) (D : Df K mg "next_texts" sNextTexts) : CalX P w K mg base "next_texts" (k + 1) ["plans", "clauses", "words", "left"] (cnNx Ct n) := by
  refine D.calX scNx (fun _ _ _ _ _ _ us hl => len4 us hl fun _ _ _ _ => rfl) (by decide) fun f cdv A outer s0 H E hr rs μ o hC => ?_
  obtain ⟨ms, r, ws, l, rfl, ⟨O, hr3, hpg, hco, h1, h12, hs⟩, rfl⟩ := hC
  have tk : L2N.Takes (cxOf (L2N.CX P w) P w K mg base nNx "next_texts" (defScope sNextTexts) f cdv A outer s0 H E) (fun cls d _ H => E cls d H) := L2N.takes_of rfl rfl rfl rfl
  have hu : (cxOf (L2N.CX P w) P w K mg base nNx "next_texts" (defScope sNextTexts) f cdv A outer s0 H E).A.units + 1 < cLine := Nat.lt_of_le_of_lt (Nat.add_le_add_left (show 1 ≤ 16 * k + 200 by omega) _) hr.un
  have hLG := GT.led_g O n
  generalize hL : GT.ledT ms n = L at *
  refine ST.cell (i := 4) (ds := ws.map .str) (EVF.lstL T.list (nm 2)) scNx.nd rfl (by first | exact Or.inl rfl | exact Or.inr rfl) ?_
  have cell : ∀ {xs : List PyData}, (μ ++ [xs])[μ.length]? = some xs := fun {xs} => at_last (μ := μ) (x := xs) (rest := [])
  have sets : ∀ {xs ys : List PyData}, (μ ++ [xs]).set μ.length ys = μ ++ [ys] := fun {xs ys} => set_last (μ := μ) (x := xs) (y := ys) (rest := [])
  have tks : ∀ (xs : List PyData), (μ ++ [xs]).take μ.length = μ := fun xs => List.take_left
  refine ST.envK (ρ' := [some (.dat (dkD (GT.plansK ms))), some (Tp (r.map N.clauseOf)), some (Ls (ws.map .str)), some (Ii (l : Int)), some (.ptr μ.length), none, none, none, none, none, none, none]) rfl ?_
  refine ST.for_ (is := [5]) (ds := r.map N.clauseOf) (IV.tup (nm 1)) (fun i ρ ν => ∃ (acc : List Str) (l1 : Nat), (∃ x5 x6 x7 x8 x9 x10, ρ = [some (.dat (dkD (GT.plansK ms))), some (Tp (r.map N.clauseOf)), some (Ls (ws.map .str)), some (Ii (l1 : Int)), some (.ptr μ.length), x5, x6, x7, x8, x9, x10, none]) ∧ ν = μ ++ [acc.map .str] ∧ acc.length = ws.length ∧ GT.Sh 4000 acc ∧ GT.rndT L (r.drop i) ws acc l1 = GT.rndT L r ws ws l) ⟨ws, l, ⟨_, _, _, _, _, _, rfl⟩, rfl, rfl, hs.mono (by decide), by rw [List.drop_zero]⟩ (fun i d ρ ν hd hI => ?_) (fun ρ ν hI => ?_) rfl (passes_of rfl)
  · obtain ⟨acc, l1, ⟨x5, x6, x7, x8, x9, x10, rfl⟩, rfl, hal, has, hrem⟩ := hI
    obtain ⟨c, hci, rfl⟩ : ∃ c, r[i]? = some c ∧ d = N.clauseOf c := by
      rw [List.getElem?_map] at hd
      cases z : r[i]? with
      | none => rw [z] at hd; cases hd
      | some c => rw [z] at hd; cases hd; exact ⟨c, rfl, rfl⟩
    have hcm := List.mem_iff_getElem?.mpr ⟨i, hci⟩
    have hcg := hpg c hcm
    have hF := GT.sp_f hcg h12
    have hil := (List.getElem?_eq_some_iff.mp hci).1
    have hdrop : r.drop i = c :: r.drop (i + 1) := by
      rw [List.drop_eq_getElem_cons hil]
      congr 1
      exact (List.getElem?_eq_some_iff.mp hci).2
    rw [hdrop] at hrem
    obtain ⟨o0, o1⟩ := hcg.o
    obtain ⟨b1, b3⟩ := hcg.b
    refine ⟨_, GV.name (i := 5) scNx.nd rfl (by first | exact Or.inl rfl | exact Or.inr rfl) (by simp), ?_⟩
    refine ST.asg (d := .tuple [.str c.word, .int c.over, .int c.by_, N.more c]) (is := [6, 7, 8, 9]) (nm 5) (GV.tup (GsV.cons (GV.name (i := 6) scNx.nd rfl (by first | exact Or.inl rfl | exact Or.inr rfl) (by simp)) (GsV.cons (GV.name (i := 7) scNx.nd rfl (by first | exact Or.inl rfl | exact Or.inr rfl) (by simp)) (GsV.cons (GV.name (i := 8) scNx.nd rfl (by first | exact Or.inl rfl | exact Or.inr rfl) (by simp)) (GsV.cons (GV.name (i := 9) scNx.nd rfl (by first | exact Or.inl rfl | exact Or.inr rfl) (by simp)) GsV.nil))))) ?_
    have hpk : pickD (ws.map PyData.str) (some c.over) none (some c.by_) = (GT.pickS c ws).map .str := by
      rw [pickD_map, GT.pick_is Str.empty hF]
      rfl
    refine ST.set (i := 10) (r := Ls ((GT.pickS c ws).map .str)) (μ1 := μ ++ [acc.map .str]) (EV.eq (EV.slL3 (nm 2) (PartV.some (nm 7)) PartV.none (PartV.some (nm 8)) (by omega) (by rw [hpk, List.length_map, GT.pick_len]; exact sz (by have := hF.le; omega))) (congrArg Ls hpk)) scNx.nd rfl (by first | exact Or.inl rfl | exact Or.inr rfl) ?_
    refine ST.envK (ρ' := [some (.dat (dkD (GT.plansK ms))), some (Tp (r.map N.clauseOf)), some (Ls (ws.map .str)), some (Ii (l1 : Int)), some (.ptr μ.length), some (.dat (N.clauseOf c)), some (Ss c.word), some (Ii c.over), some (Ii c.by_), some (.dat (N.more c)), some (Ls ((GT.pickS c ws).map .str)), none]) rfl ?_
    have hstep : ∀ (pv : List Str) (l2 : Nat), GT.clsT L c ws l1 = some (pv, l2) → GT.rndT L (r.drop (i + 1)) ws (putL (GL.sp c ws.length) pv acc) l2 = GT.rndT L r ws ws l ∧ pv.length = (GL.sp c ws.length).length ∧ GT.Sh 4000 pv := fun pv l2 e => by
      obtain ⟨g1, g2, _⟩ := GT.cls_g hLG hcg h12 hs e
      refine ⟨?_, g1, g2⟩
      rw [← hrem]
      conv => rhs; unfold GT.rndT
      rw [e]
    have hln : ∀ pv : List Str, pv.length = (GL.sp c ws.length).length → (pv.map PyData.str).length = (plcs c.over c.by_ (acc.map PyData.str).length).length ∧ (acc.map PyData.str).length + (pv.map PyData.str).length ≤ sizeLine := fun pv q => by
      rw [List.length_map, List.length_map, hal, hF.pl]
      have := hF.le
      exact ⟨q, sz (by omega)⟩
    have hplc : ∀ pv : List Str, putL (plcs c.over c.by_ (acc.map PyData.str).length) (pv.map PyData.str) (acc.map .str) = (putL (GL.sp c ws.length) pv acc).map .str := fun pv => by
      rw [List.length_map, hal, hF.pl, putL_map]
    refine ST.iff (k := !decide (c.word = "call")) (TV.eq (tNe (d := .str c.word) (d2 := .str "call") (nm 6) EV.str) rfl) (fun hb => ?_) (fun hb => ?_)
    · have hnc : c.word ≠ "call" := by simpa using hb
      have hcls : GT.clsT L c ws l1 = some ((GL.sp c ws.length).map (GT.valS c ws), l1) := by
        unfold GT.clsT
        rw [if_neg hnc]
      obtain ⟨q1, q2, q3⟩ := hstep _ _ hcls
      have hrg := rg_part hcg h12
      refine ST.lc (i := 10) (x := "part") (own := [("place", 11)]) (out := ((GL.sp c ws.length).map (GT.valS c ws)).map .str) (LCV.eqO (LCV.mapT (bs := GL.sp c ws.length) (fun (p : Nat) => PyData.int (p : Int)) (fun (p : Nat) => PyData.str (GT.valS c ws p)) (IV.eqD (IV.rng3 (nm 7) (EV.eq (bLenL T (nm 2)) (by rw [List.length_map])) (nm 8) hrg.1 T.range) ?_) (fun p hp => ⟨_, fun _ _ _ _ _ => GV.name (i := 11) scNx.nd rfl (Or.inl rfl) (by simp), fun _ _ _ _ _ => EV.call C1 (hr.mono (by omega)) (AV.cons (nm 2) (AV.cons (nm 11) (AV.cons (nm 5) AV.nil))) ⟨ws, p, c, rfl, ⟨hF.lt p hp, by omega, hs, hcg, hnc⟩, rfl, rfl⟩⟩) (by have := hF.le; omega)) (by rw [List.map_map]; rfl)) rfl scNx.nd rfl rfl (blkOk_by (N := nNx) (sc := defScope sNextTexts) (by decide +kernel)) (ST.nil ?_) rfl
      · rw [rngC_spots, GL.spots_sp o0 b1 o1, List.map_map]
        rfl
      · refine ST.envK (ρ' := [some (.dat (dkD (GT.plansK ms))), some (Tp (r.map N.clauseOf)), some (Ls (ws.map .str)), some (Ii (l1 : Int)), some (.ptr μ.length), some (.dat (N.clauseOf c)), some (Ss c.word), some (Ii c.over), some (Ii c.by_), some (.dat (N.more c)), some (Ls (((GL.sp c ws.length).map (GT.valS c ws)).map .str)), none]) rfl ?_
        refine ST.asgW (d := .list (((GL.sp c ws.length).map (GT.valS c ws)).map .str)) (nm 10) (GW.step (nm 4) (nm 7) (nm 8) cell o0 (part_one hcg).1 (part_one hcg).2 (hln _ q2).1 (hln _ q2).2) ?_
        rw [sets, hplc]
        exact ST.nil ⟨_, l1, ⟨_, _, _, _, _, _, rfl⟩, rfl, by rw [putL_len]; exact hal, GT.sh_put q3 has, q1⟩
    · have hca : c.word = "call" := by simpa using hb
      refine ST.iff (k := decide (0 < (GL.sp c ws.length).length)) (TV.eq (tGt (bLenL T (nm 10)) EV.int) (by rw [List.length_map, GT.pick_len]; exact decide_eq_decide.mpr (by omega))) (fun hz => ?_) (fun hz => ?_)
      · have hne : GL.sp c ws.length ≠ [] := fun z => by rw [z] at hz; cases hz
        obtain ⟨j, y, hj, hy, hm⟩ := hco c hcm hca hne
        have hcls : GT.clsT L c ws l1 = L c.tag (GT.pickS c ws) l1 := by
          unfold GT.clsT
          rw [if_pos hca, if_neg hne]
        have hmore : N.more c = .str c.tag := by
          unfold N.more
          rw [if_pos hca]
        have hle := hF.le
        have hpos := List.length_pos_iff.mpr hne
        refine ST.asgR (is := [10, 3]) (o := GT.resT Ct (μ ++ [acc.map .str]) (L c.tag (GT.pickS c ws) l1)) (EVR.call C3 tk (hr.mono (by omega)) (AV.cons (nm 0) (AV.cons (EV.eq (nm 9) (congrArg Ent.dat hmore)) (AV.cons (nm 10) (AV.cons (nm 3) AV.nil)))) ⟨ms, c.tag, GT.pickS c ws, l1, rfl, ⟨O, ⟨j, y, hj, hy, by rw [GT.pick_len]; exact hm⟩, by rw [GT.pick_len]; omega, by rw [GT.pick_len]; omega, GT.sh_pick hs c⟩, by rw [hL]⟩) (fun d ν e => ?_) (fun Ce fs ν e => ?_) (fun rr ν e => ?_)
        · cases hq : L c.tag (GT.pickS c ws) l1 with
          | none => rw [hq] at e; cases e
          | some q =>
            obtain ⟨pv, l2⟩ := q
            rw [hq] at e
            cases e
            obtain ⟨q1, q2, q3⟩ := hstep pv l2 (hcls.trans hq)
            refine ⟨_, GV.tup (ds := [GT.strsD pv, .int (l2 : Int)]) (GsV.cons (GV.name (i := 10) scNx.nd rfl (by first | exact Or.inl rfl | exact Or.inr rfl) (by simp)) (GsV.cons (GV.name (i := 3) scNx.nd rfl (by first | exact Or.inl rfl | exact Or.inr rfl) (by simp)) GsV.nil)), ST.nil (ST.nil ?_)⟩
            refine ST.envK (ρ' := [some (.dat (dkD (GT.plansK ms))), some (Tp (r.map N.clauseOf)), some (Ls (ws.map .str)), some (Ii (l2 : Int)), some (.ptr μ.length), some (.dat (N.clauseOf c)), some (Ss c.word), some (Ii c.over), some (Ii c.by_), some (.dat (N.more c)), some (Ls ((pv).map .str)), none]) rfl ?_
            refine ST.asgW (d := .list ((pv).map .str)) (nm 10) (GW.step (nm 4) (nm 7) (nm 8) cell o0 (part_one hcg).1 (part_one hcg).2 (hln _ q2).1 (hln _ q2).2) ?_
            rw [sets, hplc]
            exact ST.nil ⟨_, l2, ⟨_, _, _, _, _, _, rfl⟩, rfl, by rw [putL_len]; exact hal, GT.sh_put q3 has, q1⟩
        · cases hq : L c.tag (GT.pickS c ws) l1 with
          | some q => rw [hq] at e; cases e
          | none =>
            rw [hq] at e
            cases e
            show _ = _
            have : GT.rndT L r ws ws l = none := by
              rw [← hrem]
              unfold GT.rndT
              rw [hcls, hq]
            rw [this, tks]
            rfl
        · cases hq : L c.tag (GT.pickS c ws) l1 with
          | none => rw [hq] at e; cases e
          | some q => rw [hq] at e; cases e; exact ⟨_, rfl⟩
      · have hnil : GL.sp c ws.length = [] := List.length_eq_zero_iff.mp (by have := of_decide_eq_false hz; omega)
        have hpe : GT.pickS c ws = [] := by
          unfold GT.pickS
          rw [hnil]
          rfl
        have hcls : GT.clsT L c ws l1 = some (GT.pickS c ws, l1) := by
          unfold GT.clsT
          rw [if_pos hca, if_pos hnil, hpe]
        obtain ⟨q1, q2, q3⟩ := hstep _ _ hcls
        refine ST.nil (ST.nil ?_)
        refine ST.envK (ρ' := [some (.dat (dkD (GT.plansK ms))), some (Tp (r.map N.clauseOf)), some (Ls (ws.map .str)), some (Ii (l1 : Int)), some (.ptr μ.length), some (.dat (N.clauseOf c)), some (Ss c.word), some (Ii c.over), some (Ii c.by_), some (.dat (N.more c)), some (Ls ((GT.pickS c ws).map .str)), none]) rfl ?_
        refine ST.asgW (d := .list ((GT.pickS c ws).map .str)) (nm 10) (GW.step (nm 4) (nm 7) (nm 8) cell o0 (part_one hcg).1 (part_one hcg).2 (hln _ q2).1 (hln _ q2).2) ?_
        rw [sets, hplc]
        exact ST.nil ⟨_, l1, ⟨_, _, _, _, _, _, rfl⟩, rfl, by rw [putL_len]; exact hal, GT.sh_put q3 has, q1⟩
  · obtain ⟨acc, l1, ⟨x5, x6, x7, x8, x9, x10, rfl⟩, rfl, hal, has, hrem⟩ := hI
    rw [List.length_map, List.drop_length] at hrem
    have hne : acc ≠ [] := fun z => by rw [z] at hal; simp at hal; omega
    refine ST.exprR (o := lookRes (longR Ct acc) (μ ++ [acc.map .str])) (EVR.callZ C2 tk (hr.mono (by omega)) (nm 4) cell ⟨acc, rfl, ⟨hne, by omega, has.mono (by decide)⟩, rfl⟩ (fun cf e => ?_)) ?_
    · unfold longR at e
      split at e
      · cases e
        rfl
      · cases e
    · rw [← hrem]
      unfold GT.rndT longR
      cases hlg : GT.long acc with
      | true =>
        rw [if_pos rfl, if_pos rfl]
        show _ = _
        rw [tks]
        rfl
      | false =>
        rw [if_neg (by decide), if_neg (by decide)]
        show ST _ _ _ _ _ _ _
        refine ST.retPC (nm 4) (nm 3) cell (Nat.le_refl _) ?_
        show _ = _
        rw [tks]
        rfl
theorem find_tag {ms : List G.Mate} {nm : Str} : ∀ {j : Nat} {y : G.Mate}, (ms.map (·.tag)).Nodup → ms[j]? = some y → y.tag = nm → ms.find? (fun x => decide (x.tag = nm)) = some y := by
  induction ms with
  | nil => intro j y _ h _; simp at h
  | cons x ms ih =>
    intro j y nd h e
    rw [List.find?_cons]
    rw [List.map_cons, List.nodup_cons] at nd
    cases j with
    | zero =>
      simp at h
      subst h
      rw [decide_eq_true e]
    | succ j =>
      simp at h
      have hx : ¬ x.tag = nm := fun z => nd.1 (List.mem_map.mpr ⟨y, List.mem_iff_getElem?.mpr ⟨j, h⟩, by rw [z]; exact e⟩)
      rw [decide_eq_false hx]
      exact ih nd.2 h e
theorem cLd0 {k : Nat} (D : Df K mg "led_texts" sLedTexts) : CalX P w K mg base "led_texts" (k + 1) ["plans", "name", "words", "left"] (cnLd Ct 0) := by
  refine D.calX scLd (fun _ _ _ _ _ _ us hl => len4 us hl fun _ _ _ _ => rfl) (by decide) fun f cdv A outer s0 H E hr rs μ o hC => ?_
  obtain ⟨ms, nm, ws, l, rfl, ⟨O, ⟨j, y, hj, hy, hm⟩, h1, h12, hs⟩, rfl⟩ := hC
  exfalso
  unfold GT.ms_ at hm
  omega
theorem call_ok {ms : List G.Mate} (O : GT.Ok ms) {j n : Nat} {y : G.Mate} (hj : ms[j]? = some y) {len : Nat} (h2 : 2 ≤ len) (h12 : len ≤ 12) (hm : GT.ms_ j len ≤ n + 1) {r : List G.Part} (hr : r ∈ y.rounds) : ∀ c ∈ r, CallOk ms n len c := fun c hc hw hne => by
  obtain ⟨j', y', a, b, d⟩ := O.call j y hj r hr c hc hw
  have hF := GT.sp_f ((O.cl y (List.mem_iff_getElem?.mpr ⟨j, hj⟩) r hr).2 c hc) h12
  have hj4 := (List.getElem?_eq_some_iff.mp hj).1
  have hj4' := (List.getElem?_eq_some_iff.mp a).1
  have l4 := O.l4
  refine ⟨j', y', a, b, ?_⟩
  unfold GT.ms_ at hm ⊢
  have hle := hF.le
  by_cases hb : c.by_ = 1
  · have := d hb
    omega
  · have := hF.ls h2 hb
    omega
theorem cLdS (T : Bt mg) {n k : Nat} (hk4 : 4 ≤ k) (hM : ∃ t, mg "MOST_SIGNS" = some (.int 1000 t)) (Ei : ExcG P w K mg base "TooLong" Ct "most") (C1 : Cal P w K mg base "goal_texts" 3 ["goal", "words"] cnGtL) (C2 : CalX P w K mg base "next_texts" (k + 1) ["plans", "clauses", "words", "left"] (cnNx Ct n)) (D : Df K mg "led_texts" sLedTexts) : CalX P w K mg base "led_texts" (k + 2) ["plans", "name", "words", "left"] (cnLd Ct (n + 1)) := by
  refine D.calX scLd (fun _ _ _ _ _ _ us hl => len4 us hl fun _ _ _ _ => rfl) (by decide) fun f cdv A outer s0 H E hr rs μ o hC => ?_
  obtain ⟨ms, nme, ws, l, rfl, ⟨O, ⟨j, y, hj, hy, hm⟩, h1, h12, hs⟩, rfl⟩ := hC
  have tk : L2N.Takes (cxOf (L2N.CX P w) P w K mg base ["plans", "name", "words", "left", "goal", "base", "told", "clauses"] "led_texts" (defScope sLedTexts) f cdv A outer s0 H E) (fun cls d _ H => E cls d H) := L2N.takes_of rfl rfl rfl rfl
  have hu : (cxOf (L2N.CX P w) P w K mg base ["plans", "name", "words", "left", "goal", "base", "told", "clauses"] "led_texts" (defScope sLedTexts) f cdv A outer s0 H E).A.units + 1 < cLine := Nat.lt_of_le_of_lt (Nat.add_le_add_left (show 1 ≤ 16 * (k + 1) + 200 by omega) _) hr.un
  have hym := List.mem_iff_getElem?.mpr ⟨j, hj⟩
  have hfd := find_tag O.nd hj hy
  have hLG := GT.led_g O n
  have hun : GT.ledT ms (n + 1) nme ws l = if l = 0 then none else if (ws.length : Int) ≤ y.base then some (GT.dueS y.goal ws, l - 1) else GT.runT (GT.ledT ms n) y.rounds ws (l - 1) := by
    conv => lhs; unfold GT.ledT
    rw [hfd]
  rw [hun]
  refine ST.ifX (k := decide (l = 0)) (TV.eq (tEq (d := .int (l : Int)) (d2 := .int 0) (nm 3) EV.int) (show ((l : Int) == 0) = decide (l = 0) by
    by_cases z : l = 0
    · rw [decide_eq_true z, z]; rfl
    · rw [decide_eq_false z]; exact beq_eq_false_iff_ne.mpr (by omega))) (fun hk => ?_) (fun hk => ?_)
  · rw [if_pos (of_decide_eq_true hk)]
    exact ST.raiseG Ei tk (hr.mono (show 2 ≤ k + 1 by omega)) (d := .int 1000) (gI hM) (by show _ = _; rw [List.take_length]; rfl)
  have hl0 := of_decide_eq_false hk
  rw [if_neg hl0]
  have el : (l : Int) - 1 = ((l - 1 : Nat) : Int) := by omega
  refine ST.augSub (k := 3) (i := (l : Int)) (j := 1) rfl EV.int scLd.nd rfl (by first | exact Or.inl rfl | exact Or.inr rfl) ?_
  rw [el]
  generalize l - 1 = l0 at *
  refine ST.asg (d := GT.planD y) (is := [4, 5, 6]) (EV.dget hu (nm 0) (nm 1) (by rw [GT.kget_plans, hfd]; rfl)) (GV.tup (ds := [.str (G.aim y.goal), .int y.base, .list (y.rounds.map fun r => .tuple (r.map N.clauseOf))]) (GsV.cons (GV.name (i := 4) scLd.nd rfl (by first | exact Or.inl rfl | exact Or.inr rfl) (by simp)) (GsV.cons (GV.name (i := 5) scLd.nd rfl (by first | exact Or.inl rfl | exact Or.inr rfl) (by simp)) (GsV.cons (GV.name (i := 6) scLd.nd rfl (by first | exact Or.inl rfl | exact Or.inr rfl) (by simp)) GsV.nil)))) ?_
  refine ST.envK (ρ' := [some (.dat (dkD (GT.plansK ms))), some (Ss nme), some (Ls (ws.map .str)), some (Ii (l0 : Int)), some (Ss (G.aim y.goal)), some (Ii y.base), some (Ls (y.rounds.map fun r => .tuple (r.map N.clauseOf))), none]) rfl ?_
  refine ST.ifX (k := decide ((ws.length : Int) ≤ y.base)) (TV.eq (tLe (bLenL T (nm 2)) (nm 5)) (by rw [List.length_map])) (fun hb => ?_) (fun hb => ?_)
  · rw [if_pos (of_decide_eq_true hb)]
    refine ST.ret (EV.tup (ds := [GT.strsD (GT.dueS y.goal ws), .int (l0 : Int)]) (AV.cons (EV.call C1 (hr.mono (by omega)) (AV.cons (nm 4) (AV.cons (nm 2) AV.nil)) ⟨y.goal, ws, rfl, ⟨O.gg y hym, by omega, hs⟩, rfl, rfl⟩) (AV.cons (nm 3) AV.nil))) ?_
    show _ = _
    rw [List.take_length]
    rfl
  have hb' := of_decide_eq_false hb
  rw [if_neg hb']
  have hb1 := (O.base y hym).1
  have h2 : 2 ≤ ws.length := by omega
  generalize hL : GT.ledT ms n = L at *
  refine ST.for_ (is := [7]) (ds := y.rounds.map fun r => .tuple (r.map N.clauseOf)) (IV.lst (nm 6)) (fun i ρ ν => ∃ (ws1 : List Str) (l1 : Nat), (∃ x7, ρ = [some (.dat (dkD (GT.plansK ms))), some (Ss nme), some (Ls (ws1.map .str)), some (Ii (l1 : Int)), some (Ss (G.aim y.goal)), some (Ii y.base), some (Ls (y.rounds.map fun r => .tuple (r.map N.clauseOf))), x7]) ∧ ν = μ ∧ ws1.length = ws.length ∧ GT.Sh 1000 ws1 ∧ GT.runT L (y.rounds.drop i) ws1 l1 = GT.runT L y.rounds ws l0) ⟨ws, l0, ⟨_, rfl⟩, rfl, rfl, hs, by rw [List.drop_zero]⟩ (fun i d ρ ν hd hI => ?_) (fun ρ ν hI => ?_) rfl (passes_of rfl)
  · obtain ⟨ws1, l1, ⟨x7, rfl⟩, hν, hwl, hws, hrem⟩ := hI
    subst hν
    obtain ⟨r, hri, rfl⟩ : ∃ r, y.rounds[i]? = some r ∧ d = .tuple (r.map N.clauseOf) := by
      rw [List.getElem?_map] at hd
      cases z : y.rounds[i]? with
      | none => rw [z] at hd; cases hd
      | some c => rw [z] at hd; cases hd; exact ⟨c, rfl, rfl⟩
    have hrm := List.mem_iff_getElem?.mpr ⟨i, hri⟩
    have hil := (List.getElem?_eq_some_iff.mp hri).1
    have hdrop : y.rounds.drop i = r :: y.rounds.drop (i + 1) := by
      rw [List.drop_eq_getElem_cons hil]
      congr 1
      exact (List.getElem?_eq_some_iff.mp hri).2
    rw [hdrop] at hrem
    refine ⟨_, GV.name (i := 7) scLd.nd rfl (by first | exact Or.inl rfl | exact Or.inr rfl) (by simp), ?_⟩
    obtain ⟨hr3, hpg⟩ := O.cl y hym r hrm
    refine ST.asgR (is := [2, 3]) (o := GT.resT Ct ν (GT.rndT L r ws1 ws1 l1)) (EVR.call C2 tk hr (AV.cons (nm 0) (AV.cons (nm 7) (AV.cons (nm 2) (AV.cons (nm 3) AV.nil)))) ⟨ms, r, ws1, l1, rfl, ⟨O, hr3, hpg, by rw [hwl]; exact call_ok O hj h2 h12 hm hrm, by omega, by omega, hws⟩, by rw [hL]⟩) (fun d μ1 e => ?_) (fun Ce fs μ1 e => ?_) (fun rr μ1 e => ?_)
    · cases hq : GT.rndT L r ws1 ws1 l1 with
      | none => rw [hq] at e; cases e
      | some q =>
        obtain ⟨w2, l2⟩ := q
        rw [hq] at e
        cases e
        obtain ⟨g1, g2, g3⟩ := GT.rnd_g hLG r ws1 l1 hpg (by omega) hws rfl hq
        refine ⟨_, GV.tup (ds := [GT.strsD w2, .int (l2 : Int)]) (GsV.cons (GV.name (i := 2) scLd.nd rfl (by first | exact Or.inl rfl | exact Or.inr rfl) (by simp)) (GsV.cons (GV.name (i := 3) scLd.nd rfl (by first | exact Or.inl rfl | exact Or.inr rfl) (by simp)) GsV.nil)), ST.nil ⟨w2, l2, ⟨_, rfl⟩, rfl, by omega, g2, ?_⟩⟩
        rw [← hrem]
        conv => rhs; unfold GT.runT
        rw [hq]
    · cases hq : GT.rndT L r ws1 ws1 l1 with
      | some q => rw [hq] at e; cases e
      | none =>
        rw [hq] at e
        cases e
        show _ = _
        have : GT.runT L y.rounds ws l0 = none := by
          rw [← hrem]
          unfold GT.runT
          rw [hq]
        rw [this, List.take_length]
        rfl
    · cases hq : GT.rndT L r ws1 ws1 l1 with
      | none => rw [hq] at e; cases e
      | some q => rw [hq] at e; cases e; exact ⟨_, rfl⟩
  · obtain ⟨ws1, l1, ⟨x7, rfl⟩, hν, hwl, hws, hrem⟩ := hI
    subst hν
    rw [List.length_map, List.drop_length] at hrem
    rw [← hrem]
    refine ST.ret (EV.tup (ds := [GT.strsD ws1, .int (l1 : Int)]) (AV.cons (nm 2) (AV.cons (nm 3) AV.nil))) ?_
    show _ = _
    rw [List.take_length]
    rfl
theorem cLN (T : Bt mg) (hM : ∃ t, mg "MOST_SIGNS" = some (.int 1000 t)) (Ei : ExcG P w K mg base "TooLong" Ct "most") (C1 : Cal P w K mg base "goal_texts" 3 ["goal", "words"] cnGtL) (C2 : Cal P w K mg base "next_text" 1 ["words", "place", "clause"] cnNt) (C3 : CalX P w K mg base "check_lengths" 3 ["words"] (cnCl Ct)) (D1 : Df K mg "next_texts" sNextTexts) (D2 : Df K mg "led_texts" sLedTexts) : ∀ n : Nat, CalX P w K mg base "led_texts" (2 * n + 4) ["plans", "name", "words", "left"] (cnLd Ct n) ∧ CalX P w K mg base "next_texts" (2 * n + 5) ["plans", "clauses", "words", "left"] (cnNx Ct n)
  | 0 => ⟨cLd0 D2, cNx T (by omega) C2 C3 (cLd0 D2) D1⟩
  | n + 1 => by
    obtain ⟨_, b⟩ := cLN T hM Ei C1 C2 C3 D1 D2 n
    have a : CalX P w K mg base "led_texts" (2 * n + 4 + 2) ["plans", "name", "words", "left"] (cnLd Ct (n + 1)) := cLdS T (by omega) hM Ei C1 b D2
    exact ⟨a, cNx T (by omega) C2 C3 a D1⟩
end
end J
namespace J
open PySem PySem.Spec
open PyProof.Rows L2
theorem shaped_intsW (l : List Int) : SeqAt.shaped (.list (l.map PyData.int)) = true := by
  have h1 : ∀ l : List Int, PyData.canLayAll0 (l.map PyData.int) = true ∧ PyData.depthAll (l.map PyData.int) = 0 := by
    intro l
    induction l with
    | nil => exact ⟨rfl, by simp [PyData.depthAll]⟩
    | cons x xs ih => exact ⟨by simp [PyData.canLayAll0, PyData.canLay0, ih.1], by simp [PyData.depthAll, PyData.depth, ih.2]⟩
  obtain ⟨a, b⟩ := h1 l
  unfold SeqAt.shaped
  rw [Bool.and_eq_true]
  refine ⟨by simpa [PyData.canLay0] using a, decide_eq_true ?_⟩
  simp only [PyData.depth, b]
  omega
theorem ints_eqv (l : List Int) : PyData.eqv (.list (l.map PyData.int)) (.list []) = l.isEmpty := by
  cases l <;> rfl
section
variable {w : World} {P : Program} {K : PySem.W.Frag} {base : Heap} {mg : Str → Option Value}
noncomputable abbrev nRl : List Str := ["_law_mates", "_law_parts", "_law_row", "_law_box", "_law_later", "_law_part", "_law_spots", "_law_back", "_law_k"]
theorem scRl : FnScope nRl ["_law_mates", "_law_parts", "_law_row", "_law_box"] (defScope sLRoundLed) := ⟨rfl, rfl, rfl, by decide +kernel, rfl, by decide +kernel, by decide +kernel⟩
noncomputable def cnRl (n : Nat) : Con := fun rs μ r μ' => ∃ (ms : List G.Mate) (rd : List G.Part) (ws : List Str) (kb : Nat) (st : GT.BX), rs = [Ls (ms.map G.Mate.d), Ls (rd.map G.Part.d), Ls (ws.map .str), .ptr kb] ∧ (GT.Ok ms ∧ rd.length ≤ 3 ∧ (∀ c ∈ rd, N.PartGood c) ∧ (∀ c ∈ rd, CallOk ms n ws.length c) ∧ 1 ≤ ws.length ∧ ws.length ≤ 12 ∧ GT.Sh 1000 ws ∧ μ[kb]? = some (boxD st)) ∧ r = Ls ((GT.rndW (GT.ledW ms n) rd ws ws st).1.map .str) ∧ μ' = μ.set kb (boxD (GT.rndW (GT.ledW ms n) rd ws ws st).2)
noncomputable def cnCa (n : Nat) : Con := fun rs μ r μ' => ∃ (ms : List G.Mate) (nme : Str) (ws : List Str) (kb : Nat) (st : GT.BX), rs = [Ls (ms.map G.Mate.d), Ss nme, Ls (ws.map .str), .ptr kb] ∧ (GT.Ok ms ∧ (∃ (j : Nat) (y : G.Mate), ms[j]? = some y ∧ y.tag = nme ∧ GT.ms_ j ws.length ≤ n) ∧ 1 ≤ ws.length ∧ ws.length ≤ 12 ∧ GT.Sh 1000 ws ∧ μ[kb]? = some (boxD st)) ∧ r = Ls ((GT.ledW ms n nme ws st).1.map .str) ∧ μ' = μ.set kb (boxD (GT.ledW ms n nme ws st).2)
theorem cRl (T : Bt mg) {n k : Nat} (hk2 : 2 ≤ k) (C1 : Cal P w K mg base "_law_spot" 1 ["_law_part", "_law_row", "_law_k"] cnSp) (C2 : Cal P w K mg base "_law_noted" 1 ["_law_row", "_law_box"] cnNo) (C3 : Cal P w K mg base "_law_called" k ["_law_mates", "_law_tag_here", "_law_row", "_law_box"] (cnCa n)) (D : Df K mg "_law_round_led" sLRoundLed) : Cal P w K mg base "_law_round_led" (k + 1) ["_law_mates", "_law_parts", "_law_row", "_law_box"] (cnRl n) := by
  refine D.cal scRl (fun _ _ _ _ _ _ us hl => len4 us hl fun _ _ _ _ => rfl) (by decide) (fun rs μ r μ' h => by obtain ⟨_, _, _, _, _, _, _, _, rfl⟩ := h; simp) fun f cdv A outer s0 H E hr rs μ r μ' hC => ?_
  obtain ⟨ms, rd, ws, kb, st, rfl, ⟨O, hr3, hpg, hco, h1, h12, hs, hk⟩, rfl, rfl⟩ := hC
  have hLG := GT.ledW_g O n
  have hu : (cxOf CX0 P w K mg base nRl "_law_round_led" (defScope sLRoundLed) f cdv A outer s0 H E).nox.A.units + 100 < PySem.cLine := Nat.lt_of_le_of_lt (Nat.add_le_add_left (show 100 ≤ 16 * k + 200 by omega) _) hr.un
  have hkl := (List.getElem?_eq_some_iff.mp hk).1
  generalize hL : GT.ledW ms n = L at *
  refine ST.cell (i := 4) (ds := ws.map .str) (EVF.lstL T.list (nm 2)) scRl.nd rfl (by first | exact Or.inl rfl | exact Or.inr rfl) ?_
  have cell : ∀ {c xs : List PyData}, (μ.set kb c ++ [xs])[μ.length]? = some xs := fun {c xs} => by
    have := at_last (μ := μ.set kb c) (x := xs) (rest := [])
    rwa [List.length_set] at this
  have sets : ∀ {c xs ys : List PyData}, (μ.set kb c ++ [xs]).set μ.length ys = μ.set kb c ++ [ys] := fun {c xs ys} => by
    have := set_last (μ := μ.set kb c) (x := xs) (y := ys) (rest := [])
    rwa [List.length_set] at this
  have cup : ∀ {c xs : List PyData}, (μ.set kb c ++ [xs])[kb]? = some c := fun {c xs} => by
    rw [List.getElem?_append_left (by rw [List.length_set]; exact hkl), List.getElem?_set_self hkl]
  have cupS : ∀ {c xs ys : List PyData}, (μ.set kb c ++ [xs]).set kb ys = μ.set kb ys ++ [xs] := fun {c xs ys} => by
    rw [List.set_append_left _ _ (by rw [List.length_set]; exact hkl), List.set_set]
  have tkm : ∀ {c xs : List PyData}, (μ.set kb c ++ [xs]).take μ.length = μ.set kb c := fun {c xs} => by
    rw [List.take_append_of_le_length (by rw [List.length_set]; exact Nat.le_refl _), List.take_of_length_le (by rw [List.length_set]; exact Nat.le_refl _)]
  have e0 : μ ++ [ws.map PyData.str] = μ.set kb (boxD st) ++ [ws.map .str] := by rw [← set_same hk]
  rw [e0]
  refine ST.envK (ρ' := [some (Ls (ms.map G.Mate.d)), some (Ls (rd.map G.Part.d)), some (Ls (ws.map .str)), some (.ptr kb), some (.ptr μ.length), none, none, none, none]) rfl ?_
  refine ST.for_ (is := [5]) (ds := rd.map G.Part.d) (IV.lst (nm 1)) (fun i ρ ν => ∃ (acc : List Str) (st1 : GT.BX), (∃ x5 x6 x7 x8, ρ = [some (Ls (ms.map G.Mate.d)), some (Ls (rd.map G.Part.d)), some (Ls (ws.map .str)), some (.ptr kb), some (.ptr μ.length), x5, x6, x7, x8]) ∧ ν = μ.set kb (boxD st1) ++ [acc.map .str] ∧ acc.length = ws.length ∧ GT.Sh 4000 acc ∧ GT.rndW L (rd.drop i) ws acc st1 = GT.rndW L rd ws ws st) ⟨ws, st, ⟨_, _, _, _, rfl⟩, rfl, rfl, hs.mono (by decide), by rw [List.drop_zero]⟩ (fun i d ρ ν hd hI => ?_) (fun ρ ν hI => ?_)
  · obtain ⟨acc, st1, ⟨x5, x6, x7, x8, rfl⟩, rfl, hal, has, hrem⟩ := hI
    obtain ⟨c, hci, rfl⟩ : ∃ c, rd[i]? = some c ∧ d = G.Part.d c := by
      rw [List.getElem?_map] at hd
      cases z : rd[i]? with
      | none => rw [z] at hd; cases hd
      | some c => rw [z] at hd; cases hd; exact ⟨c, rfl, rfl⟩
    have hcm := List.mem_iff_getElem?.mpr ⟨i, hci⟩
    have hcg := hpg c hcm
    have hF := GT.sp_f hcg h12
    have hil := (List.getElem?_eq_some_iff.mp hci).1
    have hdrop : rd.drop i = c :: rd.drop (i + 1) := by
      rw [List.drop_eq_getElem_cons hil]
      congr 1
      exact (List.getElem?_eq_some_iff.mp hci).2
    rw [hdrop] at hrem
    have hrem' : GT.rndW L (rd.drop (i + 1)) ws (putL (GL.sp c ws.length) (GT.clsW L c ws st1).1 acc) (GT.clsW L c ws st1).2 = GT.rndW L rd ws ws st := hrem
    obtain ⟨g1, g2⟩ := GT.clsW_g hLG hcg h12 hs st1
    obtain ⟨o0, o1⟩ := hcg.o
    obtain ⟨b1, b3⟩ := hcg.b
    refine ⟨_, GV.name (i := 5) scRl.nd rfl (by first | exact Or.inl rfl | exact Or.inr rfl) (by simp), ?_⟩
    have a0 : ([PyData.str c.word, .int c.over, .int c.by_, .str c.side, .int c.far, .str c.tag])[0]? = some (.str c.word) := rfl
    have a1 : ([PyData.str c.word, .int c.over, .int c.by_, .str c.side, .int c.far, .str c.tag])[1]? = some (.int c.over) := rfl
    have a2 : ([PyData.str c.word, .int c.over, .int c.by_, .str c.side, .int c.far, .str c.tag])[2]? = some (.int c.by_) := rfl
    have a5 : ([PyData.str c.word, .int c.over, .int c.by_, .str c.side, .int c.far, .str c.tag])[5]? = some (.str c.tag) := rfl
    have hrg := rg_part hcg h12
    have hsl := hF.le
    have hlt := hF.lt
    have hspt : rngC c.over c.by_ (Builtin.Range.rangeSize c.over (ws.length : Int) c.by_).toNat = ((GL.sp c ws.length).map fun (p : Nat) => (p : Int)).map .int := by
      rw [rngC_spots, GL.spots_sp o0 b1 o1]
    refine ST.set (i := 6) (r := Ls (((GL.sp c ws.length).map fun (p : Nat) => (p : Int)).map .int)) (μ1 := μ.set kb (boxD st1) ++ [acc.map .str]) (EV.eq (EVF.lstRgC T.list T.range rfl (ixT (nm 5) EV.int (at_nat a1)) (EV.eq (bLenL T (nm 2)) (by rw [List.length_map])) (ixT (nm 5) EV.int (at_nat a2)) hrg.1 (Nat.le_trans (Nat.le_trans hrg.2 h12) (by decide))).ev (congrArg Ls hspt)) scRl.nd rfl (by first | exact Or.inl rfl | exact Or.inr rfl) ?_
    refine ST.envK (ρ' := [some (Ls (ms.map G.Mate.d)), some (Ls (rd.map G.Part.d)), some (Ls (ws.map .str)), some (.ptr kb), some (.ptr μ.length), some (.dat (G.Part.d c)), some (Ls (((GL.sp c ws.length).map fun (p : Nat) => (p : Int)).map .int)), x7, x8]) rfl ?_
    have atS : ∀ p ∈ GL.sp c ws.length, (ws.map PyData.str)[p]? = some (.str (ws.getD p Str.empty)) := fun p hp => by
      rw [List.getElem?_map, List.getD_eq_getElem?_getD, List.getElem?_eq_getElem (hlt p hp)]
      rfl
    refine ST.iffM [some (Ls (ms.map G.Mate.d)), some (Ls (rd.map G.Part.d)), some (Ls (ws.map .str)), some (.ptr kb), some (.ptr μ.length), some (.dat (G.Part.d c)), some (Ls (((GL.sp c ws.length).map fun (p : Nat) => (p : Int)).map .int)), some (Ls ((GT.clsW L c ws st1).1.map .str)), x8] (μ.set kb (boxD (GT.clsW L c ws st1).2) ++ [acc.map .str]) (k := decide (c.word = "call") && !((GL.sp c ws.length).map fun (p : Nat) => (p : Int)).isEmpty) (WV.tv (WV.andP (TV.eq (tEq (d := .str c.word) (d2 := .str "call") (ixT (nm 5) EV.int (at_nat a0)) EV.str) rfl) (WV.and1 (TV.eq (tNeD (by omega) (nm 6) (EVF.lst (ds := []) AV.nil).ev (shaped_intsW _) (by decide +kernel)) (by rw [ints_eqv]))))) (fun hb => ?_) (fun hb => ?_) ?_
    · rw [Bool.and_eq_true, decide_eq_true_eq] at hb
      obtain ⟨hca, hne⟩ := hb
      have hne' : GL.sp c ws.length ≠ [] := fun z => by rw [z] at hne; cases hne
      have hcls : GT.clsW L c ws st1 = L c.tag (GT.pickS c ws) st1 := if_pos ⟨hca, hne'⟩
      obtain ⟨j, y, hj, hy, hm⟩ := hco c hcm hca hne'
      have hpos := List.length_pos_iff.mpr hne'
      rw [hcls]
      refine ST.set (i := 7) (r := Ls ((L c.tag (GT.pickS c ws) st1).1.map .str)) (μ1 := μ.set kb (boxD (L c.tag (GT.pickS c ws) st1).2) ++ [acc.map .str]) (EV.st (EV.call C3 (hr.mono (by omega)) (AV.cons (nm 0) (AV.cons (ixT (nm 5) EV.int (at_nat a5)) (AV.cons (EV.eq (LCV.evf (own := [("_law_k", 8)]) (LCV.mapT (bs := GL.sp c ws.length) (fun (p : Nat) => PyData.int (p : Int)) (fun (p : Nat) => PyData.str (ws.getD p Str.empty)) (IV.eqD (IV.lst (nm 6)) (by rw [List.map_map]; rfl)) (fun p hp => ⟨_, fun _ _ _ _ _ => GV.name (i := 8) scRl.nd rfl (Or.inl rfl) (by simp), fun _ _ _ _ _ => ixL (nm 2) (nm 8) (at_nat (atS p hp))⟩) (by omega)) rfl scRl.nd (blkOk_by (N := nRl) (sc := defScope sLRoundLed) (by decide +kernel))).ev (show _ = Ls ((GT.pickS c ws).map .str) by unfold GT.pickS; rw [List.map_map]; rfl)) (AV.cons (nm 3) AV.nil)))) ⟨ms, c.tag, GT.pickS c ws, kb, st1, rfl, ⟨O, ⟨j, y, hj, hy, by rw [GT.pick_len]; exact hm⟩, by rw [GT.pick_len]; omega, by rw [GT.pick_len]; omega, GT.sh_pick hs c, cup⟩, by rw [hL], rfl⟩) (by rw [hL]; exact cupS)) scRl.nd rfl (by first | exact Or.inl rfl | exact Or.inr rfl) ?_
      exact ST.nil ⟨rfl, rfl⟩
    · have hcls : GT.clsW L c ws st1 = ((GL.sp c ws.length).map (GT.valS c ws), st1) := by
        refine if_neg fun z => ?_
        rw [decide_eq_true z.1, Bool.true_and] at hb
        cases e : GL.sp c ws.length with
        | nil => exact z.2 e
        | cons p ps => rw [e] at hb; cases hb
      have hnc : ∀ p ∈ GL.sp c ws.length, c.word ≠ "call" := fun p hp z => by
        rw [decide_eq_true z, Bool.true_and] at hb
        cases e : GL.sp c ws.length with
        | nil => rw [e] at hp; cases hp
        | cons p ps => rw [e] at hb; cases hb
      rw [hcls]
      refine ST.lc (i := 7) (x := "_law_back") (own := [("_law_k", 8)]) (out := ((GL.sp c ws.length).map (GT.valS c ws)).map .str) (LCV.eqO (LCV.mapT (bs := GL.sp c ws.length) (fun (p : Nat) => PyData.int (p : Int)) (fun (p : Nat) => PyData.str (GT.valS c ws p)) (IV.eqD (IV.lst (nm 6)) (by rw [List.map_map]; rfl)) (fun p hp => ⟨_, fun _ _ _ _ _ => GV.name (i := 8) scRl.nd rfl (Or.inl rfl) (by simp), fun _ _ _ _ _ => EV.call C1 (hr.mono (by omega)) (AV.cons (nm 5) (AV.cons (nm 2) (AV.cons (nm 8) AV.nil))) ⟨c, ws, p, rfl, ⟨hlt p hp, by omega, hs, hcg, hnc p hp⟩, rfl, rfl⟩⟩) (by omega)) (by rw [List.map_map]; rfl)) rfl scRl.nd rfl rfl (blkOk_by (N := nRl) (sc := defScope sLRoundLed) (by decide +kernel)) ?_ rfl
      exact ST.nil ⟨rfl, rfl⟩
    · generalize (GT.clsW L c ws st1).1 = pv at *
      generalize (GT.clsW L c ws st1).2 = st2 at *
      generalize hps : GL.sp c ws.length = ps at *
      refine ST.for_ (is := [8]) (ds := rngD 0 ps.length) (IV.eqD (IV.rng1 (j := (ps.length : Int)) (EV.eq (bLenL T (nm 6)) (by rw [List.length_map, List.length_map])) (by omega) (by omega) T.range) (by rw [Int.toNat_natCast])) (fun i ρ ν => (∃ x8, ρ = [some (Ls (ms.map G.Mate.d)), some (Ls (rd.map G.Part.d)), some (Ls (ws.map .str)), some (.ptr kb), some (.ptr μ.length), some (.dat (G.Part.d c)), some (Ls ((ps.map fun (p : Nat) => (p : Int)).map .int)), some (Ls (pv.map .str)), x8]) ∧ ν = μ.set kb (boxD st2) ++ [(putN ps pv acc i).map .str]) ⟨⟨_, rfl⟩, rfl⟩ (fun i2 d ρ ν hd hI => ?_) (fun ρ ν hI => ?_)
      · obtain ⟨⟨x8, rfl⟩, rfl⟩ := hI
        have hi : i2 < ps.length := by
          have := (List.getElem?_eq_some_iff.mp hd).1
          rwa [rngD_len] at this
        obtain rfl : d = .int (i2 : Int) := by
          unfold rngD at hd
          rw [List.getElem?_map, List.getElem?_range hi] at hd
          cases hd
          show PyData.int (0 + (i2 : Int)) = _
          rw [Int.zero_add]
        refine ⟨_, GV.name (i := 8) scRl.nd rfl (by first | exact Or.inl rfl | exact Or.inr rfl) (by simp), ?_⟩
        have hp1 : ps[i2]? = some ps[i2] := List.getElem?_eq_getElem hi
        have hi' : i2 < pv.length := by omega
        have hv1 : pv[i2]? = some pv[i2] := List.getElem?_eq_getElem hi'
        have hp2 : ((ps.map fun (p : Nat) => (p : Int)).map PyData.int)[i2]? = some (.int (ps[i2] : Int)) := by rw [List.getElem?_map, List.getElem?_map, hp1]; rfl
        have hv2 : (pv.map PyData.str)[i2]? = some (.str pv[i2]) := by rw [List.getElem?_map, hv1]; rfl
        refine ST.asgW (d := .str pv[i2]) (ixL (nm 7) (nm 8) (at_nat hv2)) (GW.sub (j := ps[i2]) (nm 4) (ixL (nm 6) (nm 8) (at_nat hp2)) cell (by rw [List.length_map, putN_len, hal]; exact hlt _ (List.getElem_mem hi))) ?_
        rw [sets, putN_succ acc hp1 hv1, List.map_set]
        exact ST.nil ⟨⟨_, rfl⟩, rfl⟩
      · obtain ⟨⟨x8, rfl⟩, rfl⟩ := hI
        rw [rngD_len, putN_all (Nat.le_refl _)]
        exact ST.nil ⟨putL ps pv acc, st2, ⟨_, _, _, _, rfl⟩, rfl, by rw [putL_len]; exact hal, GT.sh_put g2 has, hrem'⟩
  · obtain ⟨acc, st1, ⟨x5, x6, x7, x8, rfl⟩, rfl, hal, has, hrem⟩ := hI
    rw [List.length_map, List.drop_length] at hrem
    have hrem' : GT.noteW acc st1 = GT.rndW L rd ws ws st := hrem
    have hne : acc ≠ [] := fun z => by rw [z] at hal; simp at hal; omega
    refine ST.retZ (ρ' := [some (Ls (ms.map G.Mate.d)), some (Ls (rd.map G.Part.d)), some (Ls (ws.map .str)), some (.ptr kb), some (Ls (acc.map .str)), x5.map (frz μ.length (μ.set kb (boxD st1) ++ [acc.map .str])), x6.map (frz μ.length (μ.set kb (boxD st1) ++ [acc.map .str])), x7.map (frz μ.length (μ.set kb (boxD st1) ++ [acc.map .str])), x8.map (frz μ.length (μ.set kb (boxD st1) ++ [acc.map .str]))]) μ.length (Nat.le_refl _) ?_ tkm (EV.call C2 (hr.mono (by omega)) (AV.cons (nm 4) (AV.cons (nm 3) AV.nil)) ⟨acc, kb, st1, rfl, ⟨hne, by omega, has.mono (by decide), List.getElem?_set_self hkl⟩, rfl, rfl⟩) ?_
    · show [some (Ls (ms.map G.Mate.d)), some (Ls (rd.map G.Part.d)), some (Ls (ws.map .str)), some (frz μ.length (μ.set kb (boxD st1) ++ [acc.map .str]) (.ptr kb)), some (frz μ.length (μ.set kb (boxD st1) ++ [acc.map .str]) (.ptr μ.length)), _, _, _, _] = _
      rw [frz_lt hkl, frz_at (Nat.le_refl _) cell]
    · rw [hrem', List.set_set]
      exact ⟨rfl, by rw [List.take_of_length_le (by rw [List.length_set]; exact Nat.le_refl _)]⟩
end
end J
namespace J
open PySem PySem.Spec
open PyProof.Rows L2
section
variable {w : World} {P : Program} {K : PySem.W.Frag} {base : Heap} {mg : Str → Option Value} {C R : Addr}
theorem scRO : FnScope ["self"] ["self"] (defScope sRowIsOver) := ⟨rfl, rfl, rfl, by decide +kernel, rfl, by decide +kernel, by decide +kernel⟩
noncomputable def cnOver (R : Addr) : Con := fun rs μ r μ' => ∃ (fs : List (Str × PyData)) (a b : Int), rs = [.obj R fs] ∧ (fs.lookup ("behind" : Str) = some (.int a) ∧ fs.lookup ("whole" : Str) = some (.int b)) ∧ r = Bb (decide (a = b)) ∧ μ' = μ
theorem okRO {f : Addr} {fd : FuncData} (F : Fun K "is_over" "Row.is_over" sRowIsOver f fd) (B : KlR K R) : FnOk P w K mg base CX0 1 f fd ["self"] (SpV K ["self"] (cnOver R)) := by
  refine fn_mk F scRO (by decide) (fun rs μ r μ' h => by obtain ⟨_, _, _, rfl, _, _, rfl⟩ := h; exact ⟨rfl, rfl⟩) fun cdv A outer s H E hr rs μ r μ' hC => ?_
  obtain ⟨fs, a, b, rfl, ⟨h1, h2⟩, rfl, rfl⟩ := hC
  exact ST.retP (EV.eq (cEq (EV.fld (nm 0) B.cl B.a5 h1) (EV.fld (nm 0) B.cl B.a7 h2)) rfl) rfl
end
end J
namespace J
open PySem PySem.Spec
open PyProof.Rows L2
structure Exc0 (K : PySem.W.Frag) (mg : Str → Option Value) (n : Str) (C : Addr) : Prop where
  ok : PySem.W.excIn K C (OG.lineOf "ArithmeticError") "ArithmeticError.__new__" = true
  at_ : mg n = some (.ref C)
  kC : PySem.W.keepIn K (.ref C) = true
  exC : PySem.W.subIn K (.ref C) (.type "BaseException") = some true
  tyC : PySem.W.typeIn K (.ref C) = some (.type "type")
section
variable {X : Cx} {W : WX} {ρ : REnv} {μ : Sto} {pos p pos' : Pos} {n : Str} {C : Addr} {nn : Nat} {P : Out → Prop} {rest : List Stmt}
theorem pmk_own0 (M : Exc0 X.K X.mg n C) (hg : Gl X n) (hdb : (n == ("__debug__" : Str)) = false := by decide) : L2N.PMk X (.Call (.Name n p) [] [] pos) (fun _ H Q => Q (.ref C) none H) := by
  intro pins s σ H Q I h
  refine wpAny_Call_Name_kw (ld_glob I hg M.at_ (PySem.W.callWith_K0 I.kIn M.kC ?_) hdb)
  show wpAny _ _ (call (.ref C) []) _ _ _
  obtain ⟨bm, N, nm, qn, bs, hdct, sn, sub, ab, col, dd, k0, k1, k2, k3, k5, mN, hC, hN, hni, T⟩ := exc_obj I.kIn M.ok
  obtain ⟨h0, g0, d0, t0, o0⟩ := s
  refine wpAny_call_exc_subT F.excBase_ArithmeticError T hC hN hni (fun h' e hm => ?_) (by show 0 ≤ sizeLine; omega)
  exact L2N.mk_of I hm (raises_own M.exC M.tyC) h (I.hok.gone hm.new)
theorem ST.raise0 (M : Exc0 X.K X.mg n C) (tk : L2N.Takes X W) (hP : P (.rse ρ μ C [])) (hc : X.calm = true := by rfl) (hg : Gl X n := by rfl) (hdb : (n == ("__debug__" : Str)) = false := by decide) : ST X W nn (.Raise (some (.Call (.Name n p) [] [] pos)) none pos' :: rest) ρ μ P := by
  intro w σ H D hn m s q
  refine ⟨_, pss_cons (L2N.ps_raise hc tk (pmk_own0 M hg hdb)) pss_never, ?_⟩
  exact Fin.rse0 (od := none) (q _ hP) m s .refl rfl
end
end J
namespace GT
open PySem J L2 M GL
noncomputable def vfB : PyData → PyData
  | .tuple [.str _, .str g, .int b, .tuple ts] => .tuple [.str g, .int b, .list (ts.map M.readRound)]
  | _ => .none
theorem vfB_told {ms : List G.Mate} (O : Ok ms) {x : G.Mate} (hx : x ∈ ms) : vfB (G.told x) = planD x := by
  show PyData.tuple [.str (G.aim x.goal), .int x.base, .list ((x.rounds.map fun r => PyData.str (G.line r)).map M.readRound)] = planD x
  unfold planD
  rw [List.map_map]
  exact congrArg (fun l => PyData.tuple [.str (G.aim x.goal), .int x.base, .list l]) (List.map_congr_left fun r hr => (O.read x hx r hr).1)
noncomputable abbrev fuel : Nat := 52
theorem ms_fuel {j n : Nat} (h : n ≤ 12) : ms_ j n ≤ fuel := by
  unfold ms_ fuel
  omega
noncomputable def afterT (ms : List G.Mate) (x : G.Mate) (ws held : List Str) (b : Nat) : Option (List Str) :=
  if (ws.length : Int) ≤ x.base then some (dueS x.goal ws) else (rndT (ledT ms fuel) (x.rounds.getD b []) held held 1000).map (·.1)
noncomputable def wholeT (x : G.Mate) (ws : List Str) : Nat := if (ws.length : Int) ≤ x.base then 1 else x.rounds.length
structure RowOk (ms : List G.Mate) (j : Nat) (x : G.Mate) (ws held : List Str) (b : Nat) : Prop where
  ok : Ok ms
  at_ : ms[j]? = some x
  n1 : 1 ≤ ws.length
  n12 : ws.length ≤ 12
  pc : ∀ s ∈ ws, GR.Piece s
  hl : held.length = ws.length
  sh : Sh 1000 held
  le : b ≤ wholeT x ws
noncomputable def rowT (C : Addr) (ms : List G.Mate) (x : G.Mate) (ws held : List Str) (b : Nat) : List (Str × PyData) := rowD C (ms.map G.told) x.tag (ws.map .str) (held.map .str) (b : Int) (dueL x.goal ws) (wholeT x ws : Int)
theorem due_eq (g : Str × Int) (ws : List Str) : dueL g ws = (dueS g ws).map .str := by
  unfold dueL dueS
  rw [List.map_map]
  rfl
end GT
namespace J
open PySem PySem.Spec
open PyProof.Rows L2
theorem bTupT {X : Cx} {ρ : REnv} {μ μ1 : Sto} {a : Expr} {p pos : Pos} {ds : List PyData} (T : Bt X.mg) (ha : EV X a ρ μ (Tp ds) μ1) (hg : Gl X "tuple" := by rfl) (hs : starEach [a] X.env = (false, eval a X.env) :: starEach [] X.env := by rfl) : EV X (.Call (.Name "tuple" p) [a] [] pos) ρ μ (Tp ds) μ1 := EV.callTy call_tuple_of T.tuple (by decide +kernel) (AV.cons ha AV.nil hs) cv_tupT hg (by decide) (by decide) hs (by rfl)
section
variable {w : World} {P : Program} {K : PySem.W.Frag} {base : Heap} {mg : Str → Option Value} {C R Ct Co : Addr}
theorem scRb : FnScope ["book", "name", "goal", "base", "texts", "text"] ["book"] (defScope sReadBook) := ⟨rfl, rfl, rfl, by decide +kernel, rfl, by decide +kernel, by decide +kernel⟩
noncomputable def cnRb (C : Addr) : Con := fun rs μ r μ' => ∃ ms : List G.Mate, rs = [bookE C (ms.map G.told)] ∧ GT.Ok ms ∧ r = .dat (dkD (GT.plansK ms)) ∧ μ' = μ
theorem cRb (B : Kl K C) (Pp : Prp P w K mg base C "plans" 1 (cnPlans C)) (C1 : Cal P w K mg base "read_round" 4 ["text"] cnReadRound) (D : Df K mg "read_book" sReadBook) : Cal P w K mg base "read_book" 5 ["book"] (cnRb C) := by
  refine D.cal scRb (fun _ _ _ _ _ _ us hl => len1 us hl fun _ => rfl) (by decide) (fun rs μ r μ' h => by obtain ⟨_, _, _, _, rfl⟩ := h; rfl) fun f cdv A outer s H E hr rs μ r μ' hC => ?_
  obtain ⟨ms, rfl, O, rfl, rfl⟩ := hC
  have hnd : ((ms.map G.told).map M.nameOf).Nodup := O.good.nd
  have hl4 := O.l4
  refine ST.retP (r' := .dat (dkD (GT.plansK ms))) (EV.eq (EV.dcMap (own := [("name", 1), ("goal", 2), ("base", 3), ("texts", 4)]) (ds := ms.map G.told) M.nameOf GT.vfB (IV.tup (EV.prop (nm 0) B.cl Pp (hr.mono (by decide)) ⟨_, rfl, trivial, rfl, rfl⟩)) (fun d hd => ?_) hnd (by rw [List.length_map]; omega) rfl scRb.nd (blkOk_by (N := ["book", "name", "goal", "base", "texts", "text"]) (sc := defScope sReadBook) (by decide +kernel))) ?_) rfl
  · obtain ⟨x, hx, rfl⟩ := List.mem_map.mp hd
    have hvf := GT.vfB_told O hx
    have hmany := O.many x hx
    refine ⟨_, fun _ _ _ _ _ => GV.tup (ds := [.str x.tag, .str (G.aim x.goal), .int x.base, .tuple (x.rounds.map fun r => .str (G.line r))]) (GsV.cons (GV.name (i := 1) scRb.nd rfl (Or.inl rfl) (by simp)) (GsV.cons (GV.name (i := 2) scRb.nd rfl (Or.inl rfl) (by simp)) (GsV.cons (GV.name (i := 3) scRb.nd rfl (Or.inl rfl) (by simp)) (GsV.cons (GV.name (i := 4) scRb.nd rfl (Or.inl rfl) (by simp)) GsV.nil)))), (fun _ _ _ _ _ => nm 1), fun s2 H2 C2 cl fp => ?_⟩
    rw [hvf]
    unfold GT.planD
    have blk : BlkOk ["book", "name", "goal", "base", "texts", "text"] { kind := ScopeKind.function, names := [(".0", NameKind.local), ("name", NameKind.local), ("goal", NameKind.local), ("base", NameKind.local), ("texts", NameKind.local)], isGenerator := false, isCoroutine := false } { kind := ScopeKind.function, names := [(".0", NameKind.local), ("text", NameKind.local), ("read_round", NameKind.globalImplicit)], isGenerator := false, isCoroutine := false } [("text", 5)] := blkOk_by (by decide +kernel)
    refine EV.tup (ds := [.str (G.aim x.goal), .int x.base, .list (x.rounds.map fun r => .tuple (r.map N.clauseOf))]) ?_
    refine AV.cons (nm 2) ?_
    refine AV.cons (nm 3) ?_
    refine AV.cons ?_ AV.nil
    refine EVF.ev (LCV.evf (own := [("text", 5)]) ?_ rfl scRb.nd blk)
    refine LCV.mapT (bs := x.rounds) (fun r => PyData.str (G.line r)) (fun r => PyData.tuple (r.map N.clauseOf)) (IV.tup (nm 4)) (fun r hr' => ⟨_, fun _ _ _ _ _ => GV.name (i := 5) scRb.nd rfl (Or.inl rfl) (by simp), fun _ _ _ _ _ => ?_⟩) (by omega)
    exact EV.eq (EV.call C1 (hr.mono (by decide)) (AV.cons (nm 5) AV.nil) ⟨.str (G.line r), rfl, ⟨rfl, fun s e => by cases e; have := (O.read x hx r hr').2; omega⟩, rfl, rfl⟩) (congrArg Ent.dat (O.read x hx r hr').1)
  · have key : ∀ l : List G.Mate, (∀ x ∈ l, x ∈ ms) → (l.map G.told).map (fun d => (PyData.str (M.nameOf d), GT.vfB d)) = (((kvE (GT.plansK l)).map keyD).zip ((GT.plansK l).map (·.2))) := by
      intro l
      induction l with
      | nil => intro _; rfl
      | cons x l ih =>
        intro h
        rw [List.map_cons, List.map_cons, ih fun y hy => h y (List.mem_cons_of_mem _ hy)]
        show (PyData.str (M.nameOf (G.told x)), GT.vfB (G.told x)) :: _ = _
        rw [GT.vfB_told O (h x List.mem_cons_self)]
        rfl
    exact congrArg (fun l => Ent.dat (PyData.dict l)) (key ms fun _ h => h)
noncomputable abbrev nAf : List Str := ["self", "plans", "goal", "base", "told", "words", "left", "row"]
theorem scAf : FnScope nAf ["self"] (defScope sRowAfter) := ⟨rfl, rfl, rfl, by decide +kernel, rfl, by decide +kernel, by decide +kernel⟩
noncomputable def afRes (C R Ct Co : Addr) (ms : List G.Mate) (x : G.Mate) (ws held : List Str) (b : Nat) (μ : Sto) : Res := if b = GT.wholeT x ws then .rse Co [] μ else match GT.afterT ms x ws held b with
  | none => .rse Ct [("most", .int 1000)] μ
  | some h => .ok (.obj R (GT.rowT C ms x ws h (b + 1))) μ
noncomputable def cnAf (C R Ct Co : Addr) : ConX := fun rs μ o => ∃ (ms : List G.Mate) (j : Nat) (x : G.Mate) (ws held : List Str) (b : Nat), rs = [.obj R (GT.rowT C ms x ws held b)] ∧ GT.RowOk ms j x ws held b ∧ o = afRes C R Ct Co ms x ws held b μ
theorem dec_nat (a b : Nat) : decide ((a : Int) = (b : Int)) = decide (a = b) := decide_eq_decide.mpr ⟨Int.ofNat.inj, congrArg Int.ofNat⟩
theorem okAf {f : Addr} {fd : FuncData} (T : Bt mg) (F : Fun K "after" "Row.after" sRowAfter f fd) (B : KlR K R) (hM : ∃ t, mg "MOST_SIGNS" = some (.int 1000 t)) (Eo : Exc0 K mg "IsOver" Co) (Po : Prp P w K mg base R "is_over" 1 (cnOver R)) (C1 : Cal P w K mg base "read_book" 5 ["book"] (cnRb C)) (C2 : CalX P w K mg base "next_texts" (2 * GT.fuel + 5) ["plans", "clauses", "words", "left"] (cnNx Ct GT.fuel)) (M : MakF P w K mg base "Row" R 6 ["self", "book", "name", "pieces"] (conRow C)) :
    FnOk P w K mg base (L2N.CX P w) (2 * GT.fuel + 6) f fd ["self"] (SpX K ["self"] (cnAf C R Ct Co)) := by
  refine fnx_mk F scAf (by decide) fun cdv A outer s0 H E hr rs μ o hl hC => ?_
  have tk : L2N.Takes (cxOf (L2N.CX P w) P w K mg base nAf "Row.after" (defScope sRowAfter) f cdv A outer s0 H E) (fun cls d _ H => E cls d H) := L2N.takes_of rfl rfl rfl rfl
  have hu : (cxOf (L2N.CX P w) P w K mg base nAf "Row.after" (defScope sRowAfter) f cdv A outer s0 H E).A.units + 1 < cLine := Nat.lt_of_le_of_lt (Nat.add_le_add_left (show 1 ≤ 16 * (2 * GT.fuel + 5) + 200 by decide) _) hr.un
  obtain ⟨ms, j, x, ws, held, b, rfl, ⟨O, hj, n1, n12, hpc, hhl, hsh, hle⟩, rfl⟩ := hC
  have hxm := List.mem_iff_getElem?.mpr ⟨j, hj⟩
  have hfd := find_tag O.nd hj rfl
  unfold afRes
  refine ST.ifX (k := decide (b = GT.wholeT x ws)) (TV.eq (TV.val (EV.prop (nm 0) B.cl Po (hr.mono (show 2 ≤ 2 * GT.fuel + 5 by decide)) ⟨_, (b : Int), (GT.wholeT x ws : Int), rfl, ⟨rfl, rfl⟩, rfl, rfl⟩)) (dec_nat _ _)) (fun hk => ?_) (fun hk => ?_)
  · rw [if_pos (of_decide_eq_true hk)]
    exact ST.raise0 Eo tk (by show _ = _; rw [List.take_length])
  have hb := of_decide_eq_false hk
  rw [if_neg hb]
  have hdl : (dueL x.goal ws).length = ws.length := by rw [GT.due_eq, List.length_map, GT.due_len]
  refine ST.set (i := 1) (r := .dat (dkD (GT.plansK ms))) (μ1 := μ) (EV.call C1 (hr.mono (by decide)) (AV.cons (EV.dob (EV.fld (nm 0) B.cl B.a1 rfl)) AV.nil) ⟨ms, rfl, O, rfl, rfl⟩) scAf.nd rfl (by first | exact Or.inl rfl | exact Or.inr rfl) ?_
  refine ST.asg (d := GT.planD x) (is := [2, 3, 4]) (EV.dget hu (nm 1) (EV.fld (nm 0) B.cl B.a2 rfl) (by rw [GT.kget_plans, hfd]; rfl)) (GV.tup (ds := [.str (G.aim x.goal), .int x.base, .list (x.rounds.map fun r => .tuple (r.map N.clauseOf))]) (GsV.cons (GV.name (i := 2) scAf.nd rfl (by first | exact Or.inl rfl | exact Or.inr rfl) (by simp)) (GsV.cons (GV.name (i := 3) scAf.nd rfl (by first | exact Or.inl rfl | exact Or.inr rfl) (by simp)) (GsV.cons (GV.name (i := 4) scAf.nd rfl (by first | exact Or.inl rfl | exact Or.inr rfl) (by simp)) GsV.nil)))) ?_
  refine ST.set (i := 5) (r := Tp (dueL x.goal ws)) (μ1 := μ) (EV.fld (nm 0) B.cl B.a6 rfl) scAf.nd rfl (by first | exact Or.inl rfl | exact Or.inr rfl) ?_
  refine ST.envK (ρ' := [some (.obj R (GT.rowT C ms x ws held b)), some (.dat (dkD (GT.plansK ms))), some (Ss (G.aim x.goal)), some (Ii x.base), some (Ls (x.rounds.map fun r => .tuple (r.map N.clauseOf))), some (Tp (dueL x.goal ws)), none, none]) rfl ?_
  have hcon : conRow C [bookE C (ms.map G.told), Ss x.tag, Tp (ws.map .str)] μ (GT.rowT C ms x ws ws 0) := by
    refine ⟨ms.map G.told, x.tag, j, x.goal, x.base, x.rounds.map fun r => .str (G.line r), ws, rfl, ⟨O.good, by rw [List.getElem?_map, List.getElem?_map, hj]; rfl, by rw [List.getElem?_map, hj]; rfl, O.gg x hxm⟩, ⟨n1, n12, hpc⟩, ?_⟩
    unfold GT.rowT GT.wholeT
    rw [List.length_map]
    congr 1
    split <;> rfl
  refine ST.iff (k := !decide ((ws.length : Int) ≤ x.base)) (TV.eq (tGt (bLenT T (nm 5)) (nm 3)) (by
    rw [hdl]
    by_cases z : (ws.length : Int) ≤ x.base
    · rw [decide_eq_true z, decide_eq_false (by omega)]; rfl
    · rw [decide_eq_false z, decide_eq_true (by omega)]; rfl)) (fun hp => ?_) (fun hp => ?_)
  · have hp' : ¬ (ws.length : Int) ≤ x.base := by simpa using hp
    have hwt : GT.wholeT x ws = x.rounds.length := if_neg hp'
    rw [hwt] at hle hb
    have hbl : b < x.rounds.length := by omega
    have hrb : x.rounds[b]? = some (x.rounds.getD b []) := by
      rw [List.getD_eq_getElem?_getD, List.getElem?_eq_getElem hbl]
      rfl
    have hrm := List.mem_iff_getElem?.mpr ⟨b, hrb⟩
    have hb1 := (O.base x hxm).1
    have haft : GT.afterT ms x ws held b = (GT.rndT (GT.ledT ms GT.fuel) (x.rounds.getD b []) held held 1000).map (·.1) := if_neg hp'
    rw [haft]
    generalize x.rounds.getD b [] = r at *
    obtain ⟨hr3, hpg⟩ := O.cl x hxm r hrm
    have hat : (x.rounds.map fun r => PyData.tuple (r.map N.clauseOf))[b]? = some (.tuple (r.map N.clauseOf)) := by rw [List.getElem?_map, hrb]; rfl
    refine ST.asgR (is := [5, 6]) (o := GT.resT Ct μ (GT.rndT (GT.ledT ms GT.fuel) r held held 1000)) (EVR.call C2 tk hr (AV.cons (nm 1) (AV.cons (ixL (nm 4) (EV.fld (nm 0) B.cl B.a5 rfl) (at_nat hat)) (AV.cons (bLstT T (EV.fld (nm 0) B.cl B.a4 rfl)) (AV.cons (gI hM) AV.nil)))) ⟨ms, r, held, 1000, rfl, ⟨O, hr3, hpg, by rw [hhl]; exact call_ok O hj (by omega) n12 (Nat.le_succ_of_le (GT.ms_fuel n12)) hrm, by omega, by omega, hsh⟩, rfl⟩) (fun d μ1 e => ?_) (fun Ce fs μ1 e => ?_) (fun rr μ1 e => ?_)
    · cases hq : GT.rndT (GT.ledT ms GT.fuel) r held held 1000 with
      | none => rw [hq] at e; cases e
      | some q =>
        obtain ⟨w2, l2⟩ := q
        rw [hq] at e
        cases e
        refine ⟨_, GV.tup (ds := [GT.strsD w2, .int (l2 : Int)]) (GsV.cons (GV.name (i := 5) scAf.nd rfl (by first | exact Or.inl rfl | exact Or.inr rfl) (by simp)) (GsV.cons (GV.name (i := 6) scAf.nd rfl (by first | exact Or.inl rfl | exact Or.inr rfl) (by simp)) GsV.nil)), ST.nil ?_⟩
        refine ST.mutMk (i := 7) (rs := [bookE C (ms.map G.told), Ss x.tag, Tp (ws.map .str)]) (μ1 := μ) M (hr.mono (by decide)) (AV.cons (EV.dob (EV.fld (nm 0) B.cl B.a1 rfl)) (AV.cons (EV.fld (nm 0) B.cl B.a2 rfl) (AV.cons (EV.fld (nm 0) B.cl B.a3 rfl) AV.nil))) hcon scAf.nd rfl (by first | exact Or.inl rfl | exact Or.inr rfl) rfl ?_
        refine SM.fld (d := .tuple (w2.map .str)) (bTupL T (nm 5)) (pv 7) B.cl B.a4 (by show 7 < 1000; decide) ?_
        refine SM.fld (d := .int ((b : Int) + 1)) (oAdd (EV.fld (nm 0) B.cl B.a5 rfl) EV.int) (pv 7) B.cl B.a5 (by show 7 < 1000; decide) ?_
        refine SM.ret (pv 7) ?_
        show _ = _
        rw [List.take_length]
        rfl
    · cases hq : GT.rndT (GT.ledT ms GT.fuel) r held held 1000 with
      | some q => rw [hq] at e; cases e
      | none =>
        rw [hq] at e
        cases e
        show _ = _
        rw [List.take_length]
        rfl
    · cases hq : GT.rndT (GT.ledT ms GT.fuel) r held held 1000 with
      | none => rw [hq] at e; cases e
      | some q => rw [hq] at e; cases e; exact ⟨_, rfl⟩
  · have hp' : (ws.length : Int) ≤ x.base := by simpa using hp
    have haft : GT.afterT ms x ws held b = some (GT.dueS x.goal ws) := if_pos hp'
    rw [haft]
    refine ST.nil ?_
    refine ST.mutMk (i := 7) (rs := [bookE C (ms.map G.told), Ss x.tag, Tp (ws.map .str)]) (μ1 := μ) M (hr.mono (by decide)) (AV.cons (EV.dob (EV.fld (nm 0) B.cl B.a1 rfl)) (AV.cons (EV.fld (nm 0) B.cl B.a2 rfl) (AV.cons (EV.fld (nm 0) B.cl B.a3 rfl) AV.nil))) hcon scAf.nd rfl (by first | exact Or.inl rfl | exact Or.inr rfl) rfl ?_
    refine SM.fld (d := .tuple (dueL x.goal ws)) (bTupT T (nm 5)) (pv 7) B.cl B.a4 (by show 7 < 1000; decide) ?_
    refine SM.fld (d := .int ((b : Int) + 1)) (oAdd (EV.fld (nm 0) B.cl B.a5 rfl) EV.int) (pv 7) B.cl B.a5 (by show 7 < 1000; decide) ?_
    refine SM.ret (pv 7) ?_
    show _ = _
    rw [List.take_length, GT.due_eq]
    rfl
end
end J
namespace J
open PySem PySem.Spec
open PyProof.Rows L2
section
variable {w : World} {P : Program} {K : PySem.W.Frag} {base : Heap} {mg : Str → Option Value}
noncomputable abbrev nCa : List Str := ["_law_mates", "_law_tag_here", "_law_row", "_law_box", "_law_mate", "_law_one", "_law_now", "_law_parts"]
theorem scCa : FnScope nCa ["_law_mates", "_law_tag_here", "_law_row", "_law_box"] (defScope sLCalled) := ⟨rfl, rfl, rfl, by decide +kernel, rfl, by decide +kernel, by decide +kernel⟩
theorem cCa0 {k : Nat} (D : Df K mg "_law_called" sLCalled) : Cal P w K mg base "_law_called" (k + 1) ["_law_mates", "_law_tag_here", "_law_row", "_law_box"] (cnCa 0) := by
  refine D.cal scCa (fun _ _ _ _ _ _ us hl => len4 us hl fun _ _ _ _ => rfl) (by decide) (fun rs μ r μ' h => by obtain ⟨_, _, _, _, _, _, _, _, rfl⟩ := h; simp) fun f cdv A outer s0 H E hr rs μ r μ' hC => ?_
  obtain ⟨ms, nme, ws, kb, st, rfl, ⟨O, ⟨j, y, hj, hy, hm⟩, h1, h12, hs, hk⟩, rfl, rfl⟩ := hC
  exfalso
  unfold GT.ms_ at hm
  omega
theorem first_of {ms : List G.Mate} {t : G.Mate → Bool} {y : G.Mate} (h : ms.find? t = some y) : ((ms.filter t).map G.Mate.d)[0]? = some y.d := by
  rw [List.getElem?_map, ← List.head?_eq_getElem?, List.head?_filter, h]
  rfl
theorem cCaS (T : Bt mg) {n k : Nat} (hk2 : 2 ≤ k) (C1 : Cal P w K mg base "_law_due" 1 ["_law_goal_here", "_law_row"] cnDs) (C2 : Cal P w K mg base "_law_noted" 1 ["_law_row", "_law_box"] cnNo) (C3 : Cal P w K mg base "_law_round_led" (k + 1) ["_law_mates", "_law_parts", "_law_row", "_law_box"] (cnRl n)) (D : Df K mg "_law_called" sLCalled) : Cal P w K mg base "_law_called" (k + 2) ["_law_mates", "_law_tag_here", "_law_row", "_law_box"] (cnCa (n + 1)) := by
  refine D.cal scCa (fun _ _ _ _ _ _ us hl => len4 us hl fun _ _ _ _ => rfl) (by decide) (fun rs μ r μ' h => by obtain ⟨_, _, _, _, _, _, _, _, rfl⟩ := h; simp) fun f cdv A outer s0 H E hr rs μ r μ' hC => ?_
  obtain ⟨ms, nme, ws, kb, st, rfl, ⟨O, ⟨j, y, hj, hy, hm⟩, h1, h12, hs, hk⟩, rfl, rfl⟩ := hC
  have hkl := (List.getElem?_eq_some_iff.mp hk).1
  have hym := List.mem_iff_getElem?.mpr ⟨j, hj⟩
  have hfd := find_tag O.nd hj hy
  have hLG := GT.ledW_g O n
  obtain ⟨st0, hst0⟩ : ∃ st0 : GT.BX, st0 = (st.1 + 1, st.2 || decide (1000 < st.1 + 1)) := ⟨_, rfl⟩
  have hun : GT.ledW ms (n + 1) nme ws st = if (ws.length : Int) ≤ y.base then GT.noteW (GT.dueS y.goal ws) st0 else GT.runW (GT.ledW ms n) y.rounds ws st0 := by
    conv => lhs; unfold GT.ledW
    rw [hfd, hst0]
  rw [hun]
  have cup : ∀ c : List PyData, (μ.set kb c)[kb]? = some c := fun c => List.getElem?_set_self hkl
  have cupS : ∀ c d : List PyData, (μ.set kb c).set kb d = μ.set kb d := fun c d => List.set_set ..
  have e0 : [PyData.int (st.1 : Int), .bool st.2].set 0 (.int ((st.1 : Int) + 1)) = [.int ((st.1 : Int) + 1), .bool st.2] := rfl
  have k0 : μ[kb]? = some [PyData.int (st.1 : Int), .bool st.2] := hk
  have a0 : ∀ (x : PyData) (z : PyData), ([x, z])[0]? = some x := fun _ _ => rfl
  have a1 : ∀ (x : PyData) (z : PyData), ([x, z])[1]? = some z := fun _ _ => rfl
  refine ST.asgW (d := .int ((st.1 : Int) + 1)) (oAdd (ixC (nm 3) EV.int k0 (at_nat (a0 _ _))) EV.int) (GW.sub (j := 0) (nm 3) EV.int k0 (show (0 : Nat) < 2 by decide)) ?_
  rw [e0]
  refine ST.iffM [some (Ls (ms.map G.Mate.d)), some (Ss nme), some (Ls (ws.map .str)), some (.ptr kb), none, none, none, none] (μ.set kb (boxD st0)) (k := decide ((1000 : Int) < (st.1 : Int) + 1)) (tGt (ixC (nm 3) EV.int (cup _) (at_nat (a0 _ _))) EV.int) (fun hb => ?_) (fun hb => ?_) ?_
  · have hb' := of_decide_eq_true hb
    refine ST.asgW (d := .bool true) EV.bl (GW.sub (j := 1) (nm 3) EV.int (cup _) (show (1 : Nat) < 2 by decide)) (ST.nil ⟨rfl, ?_⟩)
    rw [cupS, hst0, decide_eq_true (show 1000 < st.1 + 1 by omega), Bool.or_true]
    rfl
  · have hb' := of_decide_eq_false hb
    refine ST.nil ⟨rfl, ?_⟩
    rw [hst0, decide_eq_false (show ¬ 1000 < st.1 + 1 by omega), Bool.or_false]
    rfl
  have d0 : ∀ x : G.Mate, ([PyData.str x.tag, .tuple [.str x.goal.1, .int x.goal.2], .int x.base, .list (x.rounds.map fun r => .list (r.map G.Part.d))])[0]? = some (.str x.tag) := fun _ => rfl
  have d1 : ([PyData.str y.tag, .tuple [.str y.goal.1, .int y.goal.2], .int y.base, .list (y.rounds.map fun r => .list (r.map G.Part.d))])[1]? = some (.tuple [.str y.goal.1, .int y.goal.2]) := rfl
  have d2 : ([PyData.str y.tag, .tuple [.str y.goal.1, .int y.goal.2], .int y.base, .list (y.rounds.map fun r => .list (r.map G.Part.d))])[2]? = some (.int y.base) := rfl
  have d3 : ([PyData.str y.tag, .tuple [.str y.goal.1, .int y.goal.2], .int y.base, .list (y.rounds.map fun r => .list (r.map G.Part.d))])[3]? = some (.list (y.rounds.map fun r => .list (r.map G.Part.d))) := rfl
  have hl4 := O.l4
  refine ST.set (i := 4) (r := .dat y.d) (μ1 := μ.set kb (boxD st0)) (ixL (LCV.evf (own := [("_law_one", 5)]) (LCV.filtMap (bs := ms) G.Mate.d G.Mate.d (fun x => decide (x.tag = nme)) (IV.lst (nm 0)) (fun x hx => ⟨_, fun _ _ _ _ _ => GV.name (i := 5) scCa.nd rfl (Or.inl rfl) (by simp), fun _ _ _ _ _ => TV.eq (tEq (d := .str x.tag) (d2 := .str nme) (ixT (nm 5) EV.int (at_nat (d0 x))) (nm 1)) rfl, fun _ _ _ _ _ => nm 5⟩) (by omega)) rfl scCa.nd (blkOk_by (N := nCa) (sc := defScope sLCalled) (by decide +kernel))).ev EV.int (at_nat (first_of hfd))) scCa.nd rfl (by first | exact Or.inl rfl | exact Or.inr rfl) ?_
  refine ST.envK (ρ' := [some (Ls (ms.map G.Mate.d)), some (Ss nme), some (Ls (ws.map .str)), some (.ptr kb), some (.dat y.d), none, none, none]) rfl ?_
  refine ST.ifR (k := decide ((ws.length : Int) ≤ y.base)) (TV.eq (tLe (bLenL T (nm 2)) (ixT (nm 4) EV.int (at_nat d2))) (by rw [List.length_map])) (fun hb => ?_) (fun hb => ?_)
  · rw [if_pos (of_decide_eq_true hb)]
    have hdl := GT.due_len y.goal ws
    have hne : GT.dueS y.goal ws ≠ [] := fun z => by rw [z] at hdl; simp at hdl; omega
    refine ST.retP (EV.call C2 (hr.mono (by omega)) (AV.cons (EV.call C1 (hr.mono (by omega)) (AV.cons (ixT (nm 4) EV.int (at_nat d1)) (AV.cons (nm 2) AV.nil)) ⟨false, y.goal, ws, rfl, ⟨O.gg y hym, by omega, hs⟩, rfl, rfl⟩) (AV.cons (nm 3) AV.nil)) ⟨GT.dueS y.goal ws, kb, st0, by rw [GT.due_eq], ⟨hne, by omega, (GT.sh_due hs).mono (Nat.le_trans (Nat.mul_le_mul_right _ h12) (by decide)), cup _⟩, rfl, rfl⟩) rfl ?_
    rw [cupS, List.take_of_length_le (by rw [List.length_set]; exact Nat.le_refl _)]
  have hb' := of_decide_eq_false hb
  rw [if_neg hb']
  have hb1 := (O.base y hym).1
  have h2 : 2 ≤ ws.length := by omega
  generalize hL : GT.ledW ms n = L at *
  refine ST.set (i := 6) (nm 2) scCa.nd rfl (by first | exact Or.inl rfl | exact Or.inr rfl) ?_
  refine ST.envK (ρ' := [some (Ls (ms.map G.Mate.d)), some (Ss nme), some (Ls (ws.map .str)), some (.ptr kb), some (.dat y.d), none, some (Ls (ws.map .str)), none]) rfl ?_
  refine ST.for_ (is := [7]) (ds := y.rounds.map fun r => .list (r.map G.Part.d)) (IV.lst (ixT (nm 4) EV.int (at_nat d3))) (fun i ρ ν => ∃ (ws1 : List Str) (st1 : GT.BX), (∃ x7, ρ = [some (Ls (ms.map G.Mate.d)), some (Ss nme), some (Ls (ws.map .str)), some (.ptr kb), some (.dat y.d), none, some (Ls (ws1.map .str)), x7]) ∧ ν = μ.set kb (boxD st1) ∧ ws1.length = ws.length ∧ GT.Sh 4000 ws1 ∧ (st1.2 = false → GT.Sh 1000 ws1) ∧ GT.runW L (y.rounds.drop i) ws1 st1 = GT.runW L y.rounds ws st0) ⟨ws, st0, ⟨_, rfl⟩, rfl, rfl, hs.mono (by decide), fun _ => hs, by rw [List.drop_zero]⟩ (fun i d ρ ν hd hI => ?_) (fun ρ ν hI => ?_)
  · obtain ⟨ws1, st1, ⟨x7, rfl⟩, rfl, hwl, hw4, hws, hrem⟩ := hI
    obtain ⟨r, hri, rfl⟩ : ∃ r, y.rounds[i]? = some r ∧ d = .list (r.map G.Part.d) := by
      rw [List.getElem?_map] at hd
      cases z : y.rounds[i]? with
      | none => rw [z] at hd; cases hd
      | some c => rw [z] at hd; cases hd; exact ⟨c, rfl, rfl⟩
    have hrm := List.mem_iff_getElem?.mpr ⟨i, hri⟩
    have hil := (List.getElem?_eq_some_iff.mp hri).1
    have hdrop : y.rounds.drop i = r :: y.rounds.drop (i + 1) := by
      rw [List.drop_eq_getElem_cons hil]
      congr 1
      exact (List.getElem?_eq_some_iff.mp hri).2
    rw [hdrop] at hrem
    refine ⟨_, GV.name (i := 7) scCa.nd rfl (by first | exact Or.inl rfl | exact Or.inr rfl) (by simp), ?_⟩
    obtain ⟨hr3, hpg⟩ := O.cl y hym r hrm
    refine ST.ifX (k := st1.2) (TV.val (ixC (nm 3) EV.int (cup _) (at_nat (a1 _ _)))) (fun hz => ?_) (fun hz => ?_)
    · refine ST.ret (nm 6) ?_
      have : GT.runW L y.rounds ws st0 = (ws1, st1) := by
        rw [← hrem]
        unfold GT.runW
        rw [if_pos hz]
      rw [this]
      exact ⟨rfl, by rw [List.take_of_length_le (by rw [List.length_set]; exact Nat.le_refl _)]⟩
    · have hrem' : GT.runW L (y.rounds.drop (i + 1)) (GT.rndW L r ws1 ws1 st1).1 (GT.rndW L r ws1 ws1 st1).2 = GT.runW L y.rounds ws st0 := by
        rw [← hrem]
        conv => rhs; unfold GT.runW
        rw [if_neg (by rw [hz]; decide)]
      obtain ⟨g1, g2, g3⟩ := GT.rndW_g hLG r ws1 st1 hpg (by omega) (hws hz) rfl hw4
      refine ST.set (i := 6) (r := Ls ((GT.rndW L r ws1 ws1 st1).1.map .str)) (μ1 := μ.set kb (boxD (GT.rndW L r ws1 ws1 st1).2)) (EV.st (EV.call C3 hr (AV.cons (nm 0) (AV.cons (nm 7) (AV.cons (nm 6) (AV.cons (nm 3) AV.nil)))) ⟨ms, r, ws1, kb, st1, rfl, ⟨O, hr3, hpg, by rw [hwl]; exact call_ok O hj h2 h12 hm hrm, by omega, by omega, hws hz, cup _⟩, by rw [hL], rfl⟩) (by rw [hL, cupS])) scCa.nd rfl (by first | exact Or.inl rfl | exact Or.inr rfl) ?_
      exact ST.nil ⟨_, _, ⟨_, rfl⟩, rfl, by rw [g1, hwl], g2, g3, hrem'⟩
  · obtain ⟨ws1, st1, ⟨x7, rfl⟩, rfl, hwl, hw4, hws, hrem⟩ := hI
    rw [List.length_map, List.drop_length] at hrem
    rw [← hrem]
    refine ST.retP (nm 6) rfl ?_
    rw [List.take_of_length_le (by rw [List.length_set]; exact Nat.le_refl _)]
    rfl
theorem cLW (T : Bt mg) (C1 : Cal P w K mg base "_law_due" 1 ["_law_goal_here", "_law_row"] cnDs) (C2 : Cal P w K mg base "_law_noted" 1 ["_law_row", "_law_box"] cnNo) (C3 : Cal P w K mg base "_law_spot" 1 ["_law_part", "_law_row", "_law_k"] cnSp) (D1 : Df K mg "_law_round_led" sLRoundLed) (D2 : Df K mg "_law_called" sLCalled) : ∀ n : Nat, Cal P w K mg base "_law_called" (2 * n + 2) ["_law_mates", "_law_tag_here", "_law_row", "_law_box"] (cnCa n) ∧ Cal P w K mg base "_law_round_led" (2 * n + 3) ["_law_mates", "_law_parts", "_law_row", "_law_box"] (cnRl n)
  | 0 => ⟨cCa0 D2, cRl T (by omega) C3 C2 (cCa0 D2) D1⟩
  | n + 1 => by
    obtain ⟨_, b⟩ := cLW T C1 C2 C3 D1 D2 n
    have a : Cal P w K mg base "_law_called" (2 * n + 2 + 2) ["_law_mates", "_law_tag_here", "_law_row", "_law_box"] (cnCa (n + 1)) := cCaS T (by omega) C1 C2 b D2
    exact ⟨a, cRl T (by omega) C3 C2 a D1⟩
end
end J
namespace J
open PySem PySem.Spec
open PyProof.Rows L2
section
variable {X : Cx} {W : WX} {n : Nat} {ρ : REnv} {μ μ1 μ2 : Sto} {P : Out → Prop} {c o : Expr} {body rest : List Stmt} {pos apos cpos : Pos} {ds : List PyData} {d : PyData}
theorem ST.while_ (Iv : Nat → REnv → Sto → Prop) (h0 : ∃ k, Iv k ρ μ)
    (hs : ∀ (k : Nat) (ρ : REnv) (μ : Sto), Iv k ρ μ → ∃ (b : Bool) (μ1 : Sto), TV X c ρ μ b μ1 ∧ (b = true → ST X W n body ρ μ1 fun
      | .nx ρ μ => ∃ k', k' < k ∧ Iv k' ρ μ
      | .ct ρ μ => ∃ k', k' < k ∧ Iv k' ρ μ
      | .brk ρ μ => thenP X W n rest P (.nx ρ μ)
      | .ret r μ => P (.ret r μ)
      | .rse ρ μ C fs => P (.rse ρ μ C fs)) ∧ (b = false → ST X W n rest ρ μ1 P))
    (hp : PassesOwn (model X.prog X.w) X.A X.env X.xe := by exact PassesOwn.never) : ST X W n (.While c body [] pos :: rest) ρ μ P := by
  intro w σ H D hn m s q
  refine ⟨_, pss_cons (ps_while hp (p_tx (e := c)) (p_sx (e := body))) (p_sx (e := rest)), ?_⟩
  obtain ⟨k0, h0⟩ := h0
  refine ⟨fun k σ' H' => ∃ β ρ' μ', Iv k ρ' μ' ∧ Mem X.K H' (w.add β) μ' ∧ Sl X.K H' (w.add β) σ' ρ' ∧ Fr w.α H H' ∧ ∀ b ∈ β, Nw H b, ⟨k0, [], ρ, μ, h0, by rw [add_nil]; exact m, by rw [add_nil]; exact s, .refl, fun b hb => absurd hb (by simp)⟩, ?_⟩
  rintro k σ' H' ⟨β, ρ', μ', iv, m2, s2, f2, hb⟩
  have hn2 : n ≤ (w.add β).α.length := by simp; omega
  have grow : ∀ o, P o → Fin X W n (w.add β) H' D o := fun o ho => Fin.grow (q o ho) hn f2 hb
  obtain ⟨b, μ1, ht, h1, h2⟩ := hs k ρ' μ' iv
  refine ht (w.add β) σ' H' m2 s2 _ fun H3 m3 f3 => ?_
  cases b with
  | true =>
    refine iteT ⟨fun σ3 H3 => ∃ k', k' < k ∧ ∃ β ρ' μ', Iv k' ρ' μ' ∧ Mem X.K H3 (w.add β) μ' ∧ Sl X.K H3 (w.add β) σ3 ρ' ∧ Fr w.α H H3 ∧ ∀ b ∈ β, Nw H b, fun σ3 H3 h => h, ?_⟩
    refine h1 rfl (w.add β) σ' H3 _ hn2 m3 (s2.fr f3) fun o ho => ?_
    have go_on : ∀ ρ5 μ5, (∃ k', k' < k ∧ Iv k' ρ5 μ5) → Nx X (w.add β) H3 (fun _ σ3 H3 => ∃ k', k' < k ∧ ∃ β ρ' μ', Iv k' ρ' μ' ∧ Mem X.K H3 (w.add β) μ' ∧ Sl X.K H3 (w.add β) σ3 ρ' ∧ Fr w.α H H3 ∧ ∀ b ∈ β, Nw H b) ρ5 μ5 := by
      rintro ρ5 μ5 ⟨k', hk, iv5⟩ β' σ5 H5 m5 s5 f5 hb5
      rw [wd_add_add] at m5 s5
      have f15 : Fr w.α H H5 := fun b o e nb nt => by
        have e3 := (f2 b o e nb nt)
        have nb2 : b ∉ (w.add β).α := fun z => by
          rcases List.mem_append.mp z with z | z
          · exact nb z
          · exact hb b z o e nt
        exact f5 b o (f3 b o e3 nb2 nt) nb2 nt
      refine ⟨k', hk, β ++ β', ρ5, μ5, iv5, m5, s5, f15, fun b hbb => ?_⟩
      rcases List.mem_append.mp hbb with z | z
      · exact hb b z
      · have n3 : Nw H3 b := hb5 b z
        have nin : b ∉ w.α ++ β := fun y => (List.nodup_append.mp (show ((w.α ++ β) ++ β').Nodup by rw [List.append_assoc]; exact m5.nd)).2.2 b y b z rfl
        exact fun o e nt => n3 o (f3 b o (f2 b o e (fun y => nin (List.mem_append_left _ y)) nt) nin nt) nt
    cases o with
    | nx ρ5 μ5 => exact go_on ρ5 μ5 ho
    | ct ρ5 μ5 => exact go_on ρ5 μ5 ho
    | ret r μ5 => exact (Fin.step (grow _ ho) hn2 f3 : Fin X W n (w.add β) H3 D (.ret r μ5))
    | rse ρ5 μ5 C fs => exact (Fin.step (grow _ ho) hn2 f3 : Fin X W n (w.add β) H3 D (.rse ρ5 μ5 C fs))
    | brk ρ5 μ5 =>
      intro β' σ5 H5 m5 s5 f5 hb5
      exact ho ((w.add β).add β') σ5 H5 D (by simp; omega) m5 s5 fun o ho => Fin.grow (Fin.step (grow o ho) hn2 f3) hn2 f5 hb5
  | false => exact iteF (h2 rfl (w.add β) σ' H3 D hn2 m3 (s2.fr f3) fun o ho => Fin.step (grow o ho) hn2 f3)
end
end J
namespace GT
open PySem J L2 M GL
theorem after_ok {ms : List G.Mate} {j : Nat} {x : G.Mate} {ws held : List Str} {b : Nat} (h : RowOk ms j x ws held b) (hb : b < wholeT x ws) {h2 : List Str} (e : afterT ms x ws held b = some h2) : RowOk ms j x ws h2 (b + 1) := by
  have hxm := List.mem_iff_getElem?.mpr ⟨j, h.at_⟩
  have n12 := h.n12
  unfold afterT at e
  split at e
  · cases e
    have hs4 : Sh 4 ws := fun s hs => (h.pc s hs).len.2
    exact ⟨h.ok, h.at_, h.n1, h.n12, h.pc, due_len _ _, (sh_due hs4).mono (by omega), hb⟩
  · rename_i hp
    have hwt : wholeT x ws = x.rounds.length := if_neg hp
    have hbl : b < x.rounds.length := by omega
    have hrm : x.rounds.getD b [] ∈ x.rounds := by
      rw [List.getD_eq_getElem?_getD, List.getElem?_eq_getElem hbl]
      exact List.getElem_mem hbl
    cases hq : rndT (ledT ms fuel) (x.rounds.getD b []) held held 1000 with
    | none => rw [hq] at e; cases e
    | some q =>
      obtain ⟨w2, l2⟩ := q
      rw [hq] at e
      cases e
      have hhl := h.hl
      obtain ⟨g1, g2, g3⟩ := rnd_g (led_g h.ok fuel) _ held 1000 (h.ok.cl x hxm _ hrm).2 (by omega) h.sh rfl hq
      exact ⟨h.ok, h.at_, h.n1, h.n12, h.pc, by rw [g1, hhl], g2, hb⟩
noncomputable def lastT (ms : List G.Mate) (x : G.Mate) (ws : List Str) : Nat → List Str → Nat → Option (List Str)
  | 0, held, _ => some held
  | n + 1, held, b => match afterT ms x ws held b with
    | none => none
    | some h => lastT ms x ws n h (b + 1)
end GT
namespace J
open PySem PySem.Spec
open PyProof.Rows L2
section
variable {w : World} {P : Program} {K : PySem.W.Frag} {base : Heap} {mg : Str → Option Value} {C R Ct Co : Addr}
theorem scLa : FnScope ["self", "row"] ["self"] (defScope sRowLast) := ⟨rfl, rfl, rfl, by decide +kernel, rfl, by decide +kernel, by decide +kernel⟩
noncomputable def laRes (C R Ct : Addr) (ms : List G.Mate) (x : G.Mate) (ws : List Str) (o : Option (List Str)) (μ : Sto) : Res := match o with
  | none => .rse Ct [("most", .int 1000)] μ
  | some h => .ok (.obj R (GT.rowT C ms x ws h (GT.wholeT x ws))) μ
noncomputable def cnLa (C R Ct : Addr) : ConX := fun rs μ o => ∃ (ms : List G.Mate) (j : Nat) (x : G.Mate) (ws held : List Str) (b : Nat), rs = [.obj R (GT.rowT C ms x ws held b)] ∧ GT.RowOk ms j x ws held b ∧ o = laRes C R Ct ms x ws (GT.lastT ms x ws (GT.wholeT x ws - b) held b) μ
theorem okLa {f : Addr} {fd : FuncData} (F : Fun K "last" "Row.last" sRowLast f fd) (B : KlR K R) (Po : Prp P w K mg base R "is_over" 1 (cnOver R)) (Ma : MthX P w K mg base R "after" (2 * GT.fuel + 6) ["self"] (cnAf C R Ct Co)) :
    FnOk P w K mg base (L2N.CX P w) (2 * GT.fuel + 7) f fd ["self"] (SpX K ["self"] (cnLa C R Ct)) := by
  refine fnx_mk F scLa (by decide) fun cdv A outer s0 H E hr rs μ o hl hC => ?_
  have tk : L2N.Takes (cxOf (L2N.CX P w) P w K mg base ["self", "row"] "Row.last" (defScope sRowLast) f cdv A outer s0 H E) (fun cls d _ H => E cls d H) := L2N.takes_of rfl rfl rfl rfl
  obtain ⟨ms, j, x, ws, held, b, rfl, h, rfl⟩ := hC
  refine ST.set (i := 1) (r := .obj R (GT.rowT C ms x ws held b)) (μ1 := μ) (nm 0) scLa.nd rfl (by first | exact Or.inl rfl | exact Or.inr rfl) ?_
  refine ST.envK (ρ' := [some (.obj R (GT.rowT C ms x ws held b)), some (.obj R (GT.rowT C ms x ws held b))]) rfl ?_
  have hI0 : GT.lastT ms x ws (GT.wholeT x ws - b) held b = GT.lastT ms x ws (GT.wholeT x ws - b) held b := rfl
  generalize hQ : GT.lastT ms x ws (GT.wholeT x ws - b) held b = Q at *
  refine ST.while_ (fun k ρ ν => ∃ (h1 : List Str) (b1 : Nat), ρ = [some (.obj R (GT.rowT C ms x ws held b)), some (.obj R (GT.rowT C ms x ws h1 b1))] ∧ ν = μ ∧ GT.RowOk ms j x ws h1 b1 ∧ k = GT.wholeT x ws - b1 ∧ GT.lastT ms x ws k h1 b1 = Q) ⟨_, held, b, rfl, rfl, h, rfl, hQ⟩ (fun k ρ ν hI => ?_) (passes_of rfl)
  obtain ⟨h1, b1, rfl, hν, ho, hk, hrem⟩ := hI
  subst hν
  have hle := ho.le
  refine ⟨!decide (b1 = GT.wholeT x ws), ν, TV.not (TV.eq (TV.val (EV.prop (nm 1) B.cl Po (hr.mono (show 2 ≤ 2 * GT.fuel + 6 by decide)) ⟨_, (b1 : Int), (GT.wholeT x ws : Int), rfl, ⟨rfl, rfl⟩, rfl, rfl⟩)) (dec_nat _ _)), fun hb => ?_, fun hb => ?_⟩
  · have hb' : b1 ≠ GT.wholeT x ws := by simpa using hb
    obtain ⟨k0, rfl⟩ : ∃ k0, k = k0 + 1 := ⟨k - 1, by omega⟩
    refine ST.setR (i := 1) (o := afRes C R Ct Co ms x ws h1 b1 ν) (EVR.meth0 (nm 1) B.cl Ma tk hr rfl ⟨ms, j, x, ws, h1, b1, rfl, ho, rfl⟩) scLa.nd rfl (by first | exact Or.inl rfl | exact Or.inr rfl) ?_
    unfold afRes
    rw [if_neg hb']
    unfold GT.lastT at hrem
    cases hq : GT.afterT ms x ws h1 b1 with
    | none =>
      rw [hq] at hrem
      show _ = _
      rw [← hrem, List.take_length]
      rfl
    | some h2 =>
      rw [hq] at hrem
      exact ST.nil ⟨k0, Nat.lt_succ_self _, h2, b1 + 1, rfl, rfl, GT.after_ok ho (by omega) hq, by omega, hrem⟩
  · have hb' : b1 = GT.wholeT x ws := by simpa using hb
    have hk0 : k = 0 := by omega
    subst hk0
    unfold GT.lastT at hrem
    refine ST.ret (r := .obj R (GT.rowT C ms x ws h1 b1)) (nm 1) ?_
    show _ = _
    rw [← hrem, List.take_length, hb']
    rfl
end
end J
namespace GT
open PySem J L2 M GL
noncomputable def goW (L : LW) : List (List G.Part) → List Str → List (List Str) × Bool
  | [], _ => ([], false)
  | r :: rs, now => if (rndW L r now now (0, false)).2.2 = true then ([], true) else ((rndW L r now now (0, false)).1 :: (goW L rs (rndW L r now now (0, false)).1).1, (goW L rs (rndW L r now now (0, false)).1).2)
noncomputable def rowsW (ms : List G.Mate) (x : G.Mate) (ws : List Str) : List (List Str) × Bool := if (ws.length : Int) ≤ x.base then ([dueS x.goal ws], false) else goW (ledW ms fuel) x.rounds ws
noncomputable def Tr (ms : List G.Mate) (x : G.Mate) (ws : List Str) : Nat → List Str → List (List Str) → Bool → Prop
  | b, held, [], fl => (fl = true ∧ b < wholeT x ws ∧ afterT ms x ws held b = none) ∨ (fl = false ∧ b = wholeT x ws)
  | b, held, h :: rest, fl => b < wholeT x ws ∧ afterT ms x ws held b = some h ∧ Tr ms x ws (b + 1) h rest fl
theorem tr_last {ms : List G.Mate} {x : G.Mate} {ws : List Str} : ∀ (rest : List (List Str)) {b : Nat} {held : List Str} {fl : Bool}, Tr ms x ws b held rest fl → lastT ms x ws (wholeT x ws - b) held b = if fl = true then none else some ((held :: rest).getLast (List.cons_ne_nil _ _))
  | [], b, held, fl, h => by
    rcases h with ⟨h1, h2, h3⟩ | ⟨h1, h2⟩
    · obtain ⟨k, hk⟩ : ∃ k, wholeT x ws - b = k + 1 := ⟨wholeT x ws - b - 1, by omega⟩
      rw [hk, if_pos h1]
      unfold lastT
      rw [h3]
    · rw [h2, Nat.sub_self, if_neg (by rw [h1]; decide)]
      rfl
  | h1 :: rest, b, held, fl, h => by
    obtain ⟨h2, h3, h4⟩ := h
    obtain ⟨k, hk⟩ : ∃ k, wholeT x ws - b = k + 1 := ⟨wholeT x ws - b - 1, by omega⟩
    have ih := tr_last rest h4
    rw [show wholeT x ws - (b + 1) = k by omega] at ih
    rw [hk]
    unfold lastT
    rw [h3]
    dsimp only
    rw [ih]
    rfl
theorem tr_go {ms : List G.Mate} (O : Ok ms) (D : ∀ x ∈ ms, ∀ r ∈ x.rounds, Dj r) {x : G.Mate} (hx : x ∈ ms) {ws : List Str} (hb : ¬ (ws.length : Int) ≤ x.base) (n12 : ws.length ≤ 12) : ∀ (rs : List (List G.Part)) (i : Nat) (now : List Str), x.rounds.drop i = rs → i ≤ x.rounds.length → now.length = ws.length → Sh 1000 now → Tr ms x ws i now (goW (ledW ms fuel) rs now).1 (goW (ledW ms fuel) rs now).2
  | [], i, now, hd, hi, hl, hs => by
    refine .inr ⟨rfl, ?_⟩
    unfold wholeT
    rw [if_neg hb]
    have := congrArg List.length hd
    rw [List.length_drop, List.length_nil] at this
    omega
  | r :: rs, i, now, hd, hi, hl, hs => by
    have R := led_rl O D fuel
    have hil : i < x.rounds.length := by
      have := congrArg List.length hd
      rw [List.length_drop, List.length_cons] at this
      omega
    have hri : x.rounds[i]? = some r := by
      have : (x.rounds.drop i)[0]? = (r :: rs)[0]? := by rw [hd]
      rw [List.getElem?_drop, Nat.add_zero] at this
      exact this
    have hdr : x.rounds.drop (i + 1) = rs := by
      have : (x.rounds.drop i).drop 1 = (r :: rs).drop 1 := by rw [hd]
      rw [List.drop_drop] at this
      exact this
    have hrm := List.mem_iff_getElem?.mpr ⟨i, hri⟩
    have hw : wholeT x ws = x.rounds.length := if_neg hb
    have haf : afterT ms x ws now i = (rndT (ledT ms fuel) r now now 1000).map (·.1) := by
      unfold afterT
      rw [if_neg hb, List.getD_eq_getElem?_getD, hri]
      rfl
    obtain ⟨hr3, hpg⟩ := O.cl x hx r hrm
    have hdj := D x hx r hrm
    unfold goW
    cases e : rndT (ledT ms fuel) r now now 1000 with
    | none =>
      have hno := rnd_no R r now 1000 hpg (by omega) hs rfl (Nat.le_refl _) e
      rw [Nat.sub_self] at hno
      rw [if_pos hno]
      exact .inl ⟨rfl, by omega, by rw [haf, e]; rfl⟩
    | some q =>
      obtain ⟨w1, l1⟩ := q
      obtain ⟨y1, _⟩ := rnd_yes R r now 1000 hpg hdj (by omega) hs rfl (Nat.le_refl _) e
      obtain ⟨g1, g2, _⟩ := rnd_g R.g r now 1000 hpg (by omega) hs rfl e
      rw [Nat.sub_self] at y1
      rw [y1, if_neg Bool.false_ne_true]
      exact ⟨by omega, by rw [haf, e]; rfl, tr_go O D hx hb n12 rs (i + 1) w1 hdr hil (by omega) g2⟩
theorem tr_rows {ms : List G.Mate} (O : Ok ms) (D : ∀ x ∈ ms, ∀ r ∈ x.rounds, Dj r) {x : G.Mate} (hx : x ∈ ms) {ws : List Str} (n12 : ws.length ≤ 12) (hs : Sh 1000 ws) : Tr ms x ws 0 ws (rowsW ms x ws).1 (rowsW ms x ws).2 := by
  unfold rowsW
  by_cases hb : (ws.length : Int) ≤ x.base
  · rw [if_pos hb]
    refine ⟨?_, ?_, .inr ⟨rfl, ?_⟩⟩
    · unfold wholeT
      rw [if_pos hb]
      exact Nat.one_pos
    · unfold afterT
      rw [if_pos hb]
    · unfold wholeT
      rw [if_pos hb]
  · rw [if_neg hb]
    exact tr_go O D hx hb n12 x.rounds 0 ws List.drop_zero (Nat.zero_le _) rfl hs
theorem tr_ok {ms : List G.Mate} {j : Nat} {x : G.Mate} {ws : List Str} : ∀ (rest : List (List Str)) {b : Nat} {held : List Str} {fl : Bool}, RowOk ms j x ws held b → Tr ms x ws b held rest fl → ∀ h ∈ held :: rest, h.length = ws.length ∧ Sh 1000 h
  | [], b, held, fl, ok, _, h, hh => by
    obtain rfl := List.mem_singleton.mp hh
    exact ⟨ok.hl, ok.sh⟩
  | h1 :: rest, b, held, fl, ok, tr, h, hh => by
    rcases List.mem_cons.mp hh with rfl | hh
    · exact ⟨ok.hl, ok.sh⟩
    · obtain ⟨t1, t2, t3⟩ := tr
      exact tr_ok rest (after_ok ok t1 t2) t3 h hh
theorem tr_len {ms : List G.Mate} {x : G.Mate} {ws : List Str} : ∀ (rest : List (List Str)) {b : Nat} {held : List Str} {fl : Bool}, Tr ms x ws b held rest fl → b + rest.length ≤ wholeT x ws
  | [], b, held, fl, h => by
    rcases h with ⟨_, h, _⟩ | ⟨_, h⟩
    · exact Nat.le_of_lt h
    · exact Nat.le_of_eq h
  | h1 :: rest, b, held, fl, h => by
    have := tr_len rest h.2.2
    rw [List.length_cons]
    omega
theorem good_ok {tags : List Str} {ms : List G.Mate} (hg : N.MatesGood tags ms) (gg : ∀ x ∈ ms, Gg x.goal) (tg : M.Good (ms.map G.told)) (rd : ∀ x ∈ ms, ∀ r ∈ x.rounds, M.readRound (.str (G.line r)) = .tuple (r.map N.clauseOf) ∧ (G.line r).length ≤ 1000) : Ok ms ∧ ∀ x ∈ ms, ∀ r ∈ x.rounds, Dj r := by
  have hmem : ∀ x ∈ ms, ∃ i, N.MateGood tags i x := fun x hx => by
    obtain ⟨i, hi⟩ := List.mem_iff_getElem?.mp hx
    exact ⟨i, hg.each i x hi⟩
  have htags : ms.map (·.tag) = tags := by
    refine List.ext_getElem? fun i => ?_
    rw [List.getElem?_map]
    cases e : ms[i]? with
    | none =>
      rw [List.getElem?_eq_none_iff] at e
      rw [Option.map_none, eq_comm, List.getElem?_eq_none_iff, ← hg.len]
      exact e
    | some x => exact (hg.each i x e).tag.symm
  refine ⟨⟨tg, rd, fun x hx r hr => ?_, gg, fun x hx => ?_, fun x hx => ?_, by rw [htags]; exact hg.nd, by rw [hg.len]; exact hg.l14.2, fun i x hi r hr c hc hw => ?_⟩, fun x hx r hr => ?_⟩
  · obtain ⟨i, g⟩ := hmem x hx
    have := g.rounds r hr
    exact ⟨this.len.2, this.good⟩
  · obtain ⟨i, g⟩ := hmem x hx
    exact g.base
  · obtain ⟨i, g⟩ := hmem x hx
    exact g.many.2
  · have g := (hg.each i x hi).rounds r hr
    rcases g.calls with z | z
    · obtain ⟨_, ht⟩ := z c hc
      have key : ∀ q : Nat, tags[q]? = some c.tag → ∃ y, ms[q]? = some y ∧ y.tag = c.tag := fun q hq => by
        rw [← htags, List.getElem?_map] at hq
        cases e : ms[q]? with
        | none => rw [e] at hq; cases hq
        | some y => rw [e] at hq; exact ⟨y, rfl, Option.some.inj hq⟩
      by_cases hb : c.by_ = 1
      · rw [if_pos hb] at ht
        obtain ⟨q, hq⟩ := List.mem_iff_getElem?.mp ht
        rw [List.getElem?_drop] at hq
        obtain ⟨y, h1, h2⟩ := key _ hq
        exact ⟨i + 1 + q, y, h1, h2, fun _ => by omega⟩
      · rw [if_neg hb] at ht
        obtain ⟨q, hq⟩ := List.mem_iff_getElem?.mp ht
        obtain ⟨y, h1, h2⟩ := key _ hq
        exact ⟨q, y, h1, h2, fun z => absurd z hb⟩
    · exact absurd hw (z c hc)
  · obtain ⟨i, g⟩ := hmem x hx
    exact dj_good (g.rounds r hr)
end GT
namespace J
open PySem PySem.Spec
open PyProof.Rows L2
theorem atI_lstW {α : Type} {xs : List α} {x : α} (h : xs.getLast? = some x) : atI xs (-1) = some x := by
  have hl : 0 < xs.length := by
    cases xs with
    | nil => cases h
    | cons a l => simp
  unfold atI ixN
  rw [if_neg (by decide), if_pos (by omega)]
  show xs[(-1 + (xs.length : Int)).toNat]? = _
  rw [List.getLast?_eq_getElem?] at h
  rw [← h]
  congr 1
  omega
noncomputable def tupT (ws : List Str) : PyData := .tuple (ws.map .str)
section
variable {w : World} {P : Program} {K : PySem.W.Frag} {base : Heap} {mg : Str → Option Value}
noncomputable abbrev nRw : List Str := ["_law_mates", "_law_mate", "_law_row", "_law_found", "_law_parts", "_law_box", "_law_now"]
theorem scRw : FnScope nRw ["_law_mates", "_law_mate", "_law_row"] (defScope sLRowsLed) := ⟨rfl, rfl, rfl, by decide +kernel, rfl, by decide +kernel, by decide +kernel⟩
noncomputable def cnRw : Con := fun rs μ r μ' => ∃ (ms : List G.Mate) (j : Nat) (x : G.Mate) (ws : List Str), rs = [Ls (ms.map G.Mate.d), .dat x.d, Tp (ws.map .str)] ∧ (GT.Ok ms ∧ ms[j]? = some x ∧ 1 ≤ ws.length ∧ ws.length ≤ 12 ∧ GT.Sh 1000 ws) ∧ r = Ls [.list ((ws :: (GT.rowsW ms x ws).1).map tupT), .bool (GT.rowsW ms x ws).2] ∧ μ' = μ
theorem cRw (T : Bt mg) {k : Nat} (hk2 : 2 ≤ k) (C1 : Cal P w K mg base "_law_due" 1 ["_law_goal_here", "_law_row"] cnDs) (C3 : Cal P w K mg base "_law_round_led" k ["_law_mates", "_law_parts", "_law_row", "_law_box"] (cnRl GT.fuel)) (D : Df K mg "_law_rows_led" sLRowsLed) : Cal P w K mg base "_law_rows_led" (k + 1) ["_law_mates", "_law_mate", "_law_row"] cnRw := by
  refine D.cal scRw (fun _ _ _ _ _ _ us hl => len3 us hl fun _ _ _ => rfl) (by decide) (fun rs μ r μ' h => by obtain ⟨_, _, _, _, _, _, _, rfl⟩ := h; rfl) fun f cdv A outer s0 H E hr rs μ r μ' hC => ?_
  obtain ⟨ms, j, x, ws, rfl, ⟨O, hj, h1, h12, hs⟩, rfl, rfl⟩ := hC
  have hxm := List.mem_iff_getElem?.mpr ⟨j, hj⟩
  have hLG := GT.ledW_g O GT.fuel
  have d1 : ([PyData.str x.tag, .tuple [.str x.goal.1, .int x.goal.2], .int x.base, .list (x.rounds.map fun r => .list (r.map G.Part.d))])[1]? = some (.tuple [.str x.goal.1, .int x.goal.2]) := rfl
  have d2 : ([PyData.str x.tag, .tuple [.str x.goal.1, .int x.goal.2], .int x.base, .list (x.rounds.map fun r => .list (r.map G.Part.d))])[2]? = some (.int x.base) := rfl
  have d3 : ([PyData.str x.tag, .tuple [.str x.goal.1, .int x.goal.2], .int x.base, .list (x.rounds.map fun r => .list (r.map G.Part.d))])[3]? = some (.list (x.rounds.map fun r => .list (r.map G.Part.d))) := rfl
  by_cases hb : (ws.length : Int) ≤ x.base
  · have hun : GT.rowsW ms x ws = ([GT.dueS x.goal ws], false) := if_pos hb
    rw [hun]
    refine ST.set (i := 3) (r := Ls [tupT ws]) (EVF.lst (ds := [tupT ws]) (AV.cons (bTupT T (nm 2)) AV.nil)).ev scRw.nd rfl (by first | exact Or.inl rfl | exact Or.inr rfl) ?_
    refine ST.ifR (k := true) (TV.eq (tLe (bLenT T (nm 2)) (ixT (nm 1) EV.int (at_nat d2))) (by rw [List.length_map]; exact decide_eq_true hb)) (fun _ => ?_) (fun z => by cases z)
    refine ST.retP (EVF.lst (ds := [.list [tupT ws, tupT (GT.dueS x.goal ws)], .bool false]) (AV.cons (oCat (ds := [tupT ws]) (ys := [tupT (GT.dueS x.goal ws)]) (nm 3) (EVF.lst (ds := [tupT (GT.dueS x.goal ws)]) (AV.cons (EV.eq (bTupL T (EV.call C1 (hr.mono (by omega)) (AV.cons (ixT (nm 1) EV.int (at_nat d1)) (AV.cons (nm 2) AV.nil)) ⟨true, x.goal, ws, rfl, ⟨O.gg x hxm, by omega, hs⟩, rfl, rfl⟩)) (by rw [GT.due_eq]; rfl)) AV.nil)).ev (by show 1 + 1 ≤ sizeLine; decide)) (AV.cons EV.bl AV.nil))).ev rfl (by rw [List.take_length])
  · have hun : GT.rowsW ms x ws = GT.goW (GT.ledW ms GT.fuel) x.rounds ws := if_neg hb
    rw [hun]
    have hb1 := (O.base x hxm).1
    have h2 : 2 ≤ ws.length := by omega
    refine ST.cell (i := 3) (ds := [tupT ws]) (EVF.lst (ds := [tupT ws]) (AV.cons (bTupT T (nm 2)) AV.nil)) scRw.nd rfl (by first | exact Or.inl rfl | exact Or.inr rfl) ?_
    refine ST.ifR (k := false) (TV.eq (tLe (bLenT T (nm 2)) (ixT (nm 1) EV.int (at_nat d2))) (by rw [List.length_map]; exact decide_eq_false hb)) (fun z => by cases z) (fun _ => ?_)
    have cellF : ∀ {xs : List PyData} {rest : Sto}, (μ' ++ (xs :: rest))[μ'.length]? = some xs := fun {xs rest} => by simp
    have setF : ∀ {xs ys : List PyData} {rest : Sto}, (μ' ++ (xs :: rest)).set μ'.length ys = μ' ++ (ys :: rest) := fun {xs ys rest} => by simp
    have tks : ∀ (r : Sto), (μ' ++ r).take μ'.length = μ' := fun r => List.take_left
    generalize hL : GT.ledW ms GT.fuel = L at *
    refine ST.envK (ρ' := [some (Ls (ms.map G.Mate.d)), some (.dat x.d), some (Tp (ws.map .str)), some (.ptr μ'.length), none, none, none]) rfl ?_
    refine ST.for_ (is := [4]) (ds := x.rounds.map fun r => .list (r.map G.Part.d)) (IV.lst (ixT (nm 1) EV.int (at_nat d3))) (fun i ρ ν => ∃ (now : List Str) (pre : List (List Str)) (junk : Sto), (∃ x4 x5 x6, ρ = [some (Ls (ms.map G.Mate.d)), some (.dat x.d), some (Tp (ws.map .str)), some (.ptr μ'.length), x4, x5, x6]) ∧ ν = μ' ++ ((pre ++ [now]).map tupT :: junk) ∧ now.length = ws.length ∧ GT.Sh 1000 now ∧ pre.length ≤ i ∧ pre ++ [now] ++ (GT.goW L (x.rounds.drop i) now).1 = ws :: (GT.goW L x.rounds ws).1 ∧ (GT.goW L (x.rounds.drop i) now).2 = (GT.goW L x.rounds ws).2) ⟨ws, [], [], ⟨_, _, _, rfl⟩, rfl, rfl, hs, Nat.le_refl _, by rw [List.drop_zero]; rfl, by rw [List.drop_zero]⟩ (fun i d ρ ν hd hI => ?_) (fun ρ ν hI => ?_)
    · obtain ⟨now, pre, junk, ⟨x4, x5, x6, rfl⟩, rfl, hnl, hns, hpi, hf1, hf2⟩ := hI
      obtain ⟨r, hri, rfl⟩ : ∃ r, x.rounds[i]? = some r ∧ d = .list (r.map G.Part.d) := by
        rw [List.getElem?_map] at hd
        cases z : x.rounds[i]? with
        | none => rw [z] at hd; cases hd
        | some c => rw [z] at hd; cases hd; exact ⟨c, rfl, rfl⟩
      have hrm := List.mem_iff_getElem?.mpr ⟨i, hri⟩
      have hil := (List.getElem?_eq_some_iff.mp hri).1
      have hmany := O.many x hxm
      have hdrop : x.rounds.drop i = r :: x.rounds.drop (i + 1) := by
        rw [List.drop_eq_getElem_cons hil]
        congr 1
        exact (List.getElem?_eq_some_iff.mp hri).2
      rw [hdrop] at hf1 hf2
      refine ⟨_, GV.name (i := 4) scRw.nd rfl (by first | exact Or.inl rfl | exact Or.inr rfl) (by simp), ?_⟩
      obtain ⟨hr3, hpg⟩ := O.cl x hxm r hrm
      obtain ⟨g1, g2, g3⟩ := GT.rndW_g hLG r now (0, false) hpg (by omega) hns rfl (hns.mono (by decide))
      refine ST.cell (i := 5) (ds := boxD (0, false)) (EVF.lst (ds := [.int 0, .bool false]) (AV.cons EV.int (AV.cons EV.bl AV.nil))) scRw.nd rfl (by first | exact Or.inl rfl | exact Or.inr rfl) ?_
      have hlen : (μ' ++ ((pre ++ [now]).map tupT :: junk)).length = μ'.length + (junk.length + 1) := by simp
      rw [hlen, List.append_assoc, List.cons_append]
      have cellB : ∀ {F b : List PyData}, (μ' ++ (F :: (junk ++ [b])))[μ'.length + (junk.length + 1)]? = some b := fun {F b} => by
        rw [List.getElem?_append_right (by omega)]
        simp
      have setB : ∀ {F b c : List PyData}, (μ' ++ (F :: (junk ++ [b]))).set (μ'.length + (junk.length + 1)) c = μ' ++ (F :: (junk ++ [c])) := fun {F b c} => by
        rw [List.set_append_right _ _ (by omega)]
        simp
      have hat : atI ((pre ++ [now]).map tupT) (-1) = some (tupT now) := atI_lstW (by rw [List.map_append, List.map_singleton, List.getLast?_append]; rfl)
      refine ST.set (i := 6) (r := Ls ((GT.rndW L r now now (0, false)).1.map .str)) (μ1 := μ' ++ ((pre ++ [now]).map tupT :: (junk ++ [boxD (GT.rndW L r now now (0, false)).2]))) (EV.st (EV.call C3 hr (AV.cons (nm 0) (AV.cons (nm 4) (AV.cons (EVF.lstT T.list (ds := now.map .str) (ixC (nm 3) (EV.neg EV.int) cellF hat)).ev (AV.cons (nm 5) AV.nil)))) ⟨ms, r, now, μ'.length + (junk.length + 1), (0, false), rfl, ⟨O, hr3, hpg, by rw [hnl]; exact call_ok O hj h2 h12 (Nat.le_succ_of_le (GT.ms_fuel h12)) hrm, by omega, by omega, hns, cellB⟩, by rw [hL], rfl⟩) (by rw [hL, setB])) scRw.nd rfl (by first | exact Or.inl rfl | exact Or.inr rfl) ?_
      have a1 : ∀ (y : PyData) (z : PyData), ([y, z])[1]? = some z := fun _ _ => rfl
      refine ST.ifX (k := (GT.rndW L r now now (0, false)).2.2) (TV.val (ixC (nm 5) EV.int cellB (at_nat (a1 _ _)))) (fun hz => ?_) (fun hz => ?_)
      · have hgo : GT.goW L (r :: x.rounds.drop (i + 1)) now = ([], true) := by
          unfold GT.goW
          rw [if_pos hz]
        rw [hgo] at hf1 hf2
        rw [List.append_nil] at hf1
        refine ST.retZ (ρ' := [some (Ls (ms.map G.Mate.d)), some (.dat x.d), some (Tp (ws.map .str)), some (Ls ((pre ++ [now]).map tupT)), some (.dat (.list (r.map G.Part.d))), some (frz μ'.length (μ' ++ ((pre ++ [now]).map tupT :: (junk ++ [boxD (GT.rndW L r now now (0, false)).2]))) (.ptr (μ'.length + (junk.length + 1)))), some (Ls ((GT.rndW L r now now (0, false)).1.map .str))]) μ'.length (Nat.le_refl _) ?_ (tks _) (EVF.lst (ds := [.list ((pre ++ [now]).map tupT), .bool true]) (AV.cons (nm 3) (AV.cons EV.bl AV.nil))).ev ?_
        · show [some (Ls (ms.map G.Mate.d)), some (.dat x.d), some (Tp (ws.map .str)), some (frz μ'.length (μ' ++ ((pre ++ [now]).map tupT :: (junk ++ [boxD (GT.rndW L r now now (0, false)).2]))) (.ptr μ'.length)), some (.dat (.list (r.map G.Part.d))), _, _] = _
          rw [frz_at (Nat.le_refl _) cellF]
          rfl
        · rw [hf1, ← hf2]
          exact ⟨rfl, by rw [List.take_length]⟩
      · have hgo : GT.goW L (r :: x.rounds.drop (i + 1)) now = ((GT.rndW L r now now (0, false)).1 :: (GT.goW L (x.rounds.drop (i + 1)) (GT.rndW L r now now (0, false)).1).1, (GT.goW L (x.rounds.drop (i + 1)) (GT.rndW L r now now (0, false)).1).2) := by
          conv => lhs; unfold GT.goW
          rw [if_neg (by rw [hz]; decide)]
        rw [hgo] at hf1 hf2
        refine ST.expr (EV.app (d := tupT (GT.rndW L r now now (0, false)).1) (nm 3) (bTupL T (nm 6)) cellF (by rw [List.length_map, List.length_append, List.length_singleton]; omega)) (ST.nil ?_)
        rw [setF]
        refine ⟨(GT.rndW L r now now (0, false)).1, pre ++ [now], junk ++ [boxD (GT.rndW L r now now (0, false)).2], ⟨_, _, _, rfl⟩, by rw [List.map_append (l₁ := pre ++ [now])]; rfl, by omega, g3 hz, by rw [List.length_append, List.length_singleton]; omega, ?_, hf2⟩
        rw [← hf1, List.append_assoc (pre ++ [now]), List.singleton_append]
    · obtain ⟨now, pre, junk, ⟨x4, x5, x6, rfl⟩, rfl, hnl, hns, hpi, hf1, hf2⟩ := hI
      rw [List.length_map, List.drop_length] at hf1 hf2
      have e : GT.goW L [] now = ([], false) := rfl
      rw [e] at hf1 hf2
      rw [List.append_nil] at hf1
      refine ST.retZ (ρ' := [some (Ls (ms.map G.Mate.d)), some (.dat x.d), some (Tp (ws.map .str)), some (Ls ((pre ++ [now]).map tupT)), x4.map (frz μ'.length (μ' ++ ((pre ++ [now]).map tupT :: junk))), x5.map (frz μ'.length (μ' ++ ((pre ++ [now]).map tupT :: junk))), x6.map (frz μ'.length (μ' ++ ((pre ++ [now]).map tupT :: junk)))]) μ'.length (Nat.le_refl _) ?_ (tks _) (EVF.lst (ds := [.list ((pre ++ [now]).map tupT), .bool false]) (AV.cons (nm 3) (AV.cons EV.bl AV.nil))).ev ?_
      · show [some (Ls (ms.map G.Mate.d)), some (.dat x.d), some (Tp (ws.map .str)), some (frz μ'.length (μ' ++ ((pre ++ [now]).map tupT :: junk)) (.ptr μ'.length)), _, _, _] = _
        rw [frz_at (Nat.le_refl _) cellF]
      · rw [hf1, ← hf2]
        exact ⟨rfl, by rw [List.take_length]⟩
end
end J
namespace N
open PySem J
theorem lo_appT {a b : Str} (ha : Lo a) (hb : Lo b) : Lo (a ++ b) := fun c hc => by
  rw [TL.tl_append] at hc
  rcases List.mem_append.mp hc with z | z
  · exact ha c z
  · exact hb c z
theorem lo_empT : Lo Str.empty := fun c hc => by cases hc
theorem lo_pieceT {s : Str} (h : GR.Piece s) : Lo s := fun c hc => by
  have hm := h.abc c hc
  have : ∀ c ∈ M.letters.cps.toList, c < 256 := by decide +kernel
  exact this c hm
end N
namespace GT
open PySem J L2 M GL
noncomputable def LoW (ws : List Str) : Prop := ∀ s ∈ ws, N.Lo s
theorem lo_getD {ws : List Str} (h : LoW ws) (i : Nat) : N.Lo (ws.getD i Str.empty) := by
  rw [List.getD_eq_getElem?_getD]
  cases e : ws[i]? with
  | none => exact N.lo_empT
  | some w => exact h w (List.mem_iff_getElem?.mpr ⟨i, e⟩)
theorem lo_there {ws : List Str} (h : LoW ws) (q : Int) : N.Lo (thereS ws q) := by
  unfold thereS
  split
  · exact lo_getD h _
  · exact N.lo_empT
theorem lo_val {ws : List Str} (h : LoW ws) (c : G.Part) (p : Nat) : N.Lo (valS c ws p) := by
  unfold valS
  split
  · exact N.lo_empT
  · split
    · exact lo_there h _
    · split
      · exact N.lo_appT (lo_there h _) (lo_getD h p)
      · exact N.lo_appT (lo_getD h p) (lo_there h _)
theorem lo_put {ps : List Nat} {vs acc : List Str} (h1 : LoW vs) (h2 : LoW acc) : LoW (putL ps vs acc) := by
  unfold putL
  have : ∀ (l : List (Nat × Str)) (acc : List Str), (∀ q ∈ l, N.Lo q.2) → LoW acc → LoW (l.foldl (fun a q => a.set q.1 q.2) acc) := by
    intro l
    induction l with
    | nil => intro acc _ h; exact h
    | cons q l ih =>
      intro acc hq h
      rw [List.foldl_cons]
      refine ih _ (fun x hx => hq x (List.mem_cons_of_mem _ hx)) fun w hw => ?_
      rcases List.mem_or_eq_of_mem_set hw with hw | rfl
      · exact h w hw
      · exact hq q List.mem_cons_self
  exact this _ acc (fun q hq => h1 _ (List.of_mem_zip hq).2) h2
theorem lo_due {g : Str × Int} {ws : List Str} (h : LoW ws) : LoW (dueS g ws) := fun s hs => by
  obtain ⟨k, _, rfl⟩ := List.mem_map.mp hs
  unfold GR.dueT
  exact N.lo_join N.lo_empT fun y hy => h y (List.mem_of_mem_take (List.mem_of_mem_drop hy))
theorem lo_pick {ws : List Str} (h : LoW ws) (c : G.Part) : LoW (pickS c ws) := fun s hs => by
  obtain ⟨p, _, rfl⟩ := List.mem_map.mp hs
  exact lo_getD h p
structure LLo (L : LT) : Prop where
  h : ∀ (nm : Str) (ws : List Str) (l : Nat) (out : List Str) (l' : Nat), LoW ws → L nm ws l = some (out, l') → LoW out
theorem cls_lo {L : LT} (hL : LLo L) {c : G.Part} {ws : List Str} (hs : LoW ws) {l : Nat} {out : List Str} {l' : Nat} (h : clsT L c ws l = some (out, l')) : LoW out := by
  unfold clsT at h
  split at h
  · split at h
    · cases h
      exact fun s hs => by cases hs
    · exact hL.h _ _ _ _ _ (lo_pick hs c) h
  · cases h
    intro s hs'
    obtain ⟨p, _, rfl⟩ := List.mem_map.mp hs'
    exact lo_val hs c p
theorem rnd_lo {L : LT} (hL : LLo L) : ∀ (cs : List G.Part) {ws : List Str} (acc : List Str) (l : Nat) {out : List Str} {l' : Nat}, LoW ws → LoW acc → rndT L cs ws acc l = some (out, l') → LoW out
  | [], ws, acc, l, out, l', _, ha, h => by
    unfold rndT at h
    split at h
    · cases h
    · cases h
      exact ha
  | c :: cs, ws, acc, l, out, l', hs, ha, h => by
    unfold rndT at h
    cases e : clsT L c ws l with
    | none => rw [e] at h; cases h
    | some q =>
      obtain ⟨p, l1⟩ := q
      rw [e] at h
      exact rnd_lo hL cs _ l1 hs (lo_put (cls_lo hL hs e) ha) h
theorem run_lo {L : LT} (hL : LLo L) : ∀ (rs : List (List G.Part)) (ws : List Str) (l : Nat) {out : List Str} {l' : Nat}, LoW ws → runT L rs ws l = some (out, l') → LoW out
  | [], ws, l, out, l', hs, h => by
    cases h
    exact hs
  | r :: rs, ws, l, out, l', hs, h => by
    unfold runT at h
    cases e : rndT L r ws ws l with
    | none => rw [e] at h; cases h
    | some q =>
      obtain ⟨w1, l1⟩ := q
      rw [e] at h
      exact run_lo hL rs w1 l1 (rnd_lo hL r ws l hs hs e) h
theorem led_lo (ms : List G.Mate) : ∀ n : Nat, LLo (ledT ms n)
  | 0 => ⟨fun nm ws l out l' _ h => by cases h⟩
  | n + 1 => ⟨fun nm ws l out l' hs h => by
    unfold ledT at h
    split at h
    · cases h
    · cases e : ms.find? (fun x => decide (x.tag = nm)) with
      | none => rw [e] at h; cases h
      | some x =>
        rw [e] at h
        dsimp only at h
        split at h
        · cases h
          exact lo_due hs
        · exact run_lo (led_lo ms n) x.rounds ws (l - 1) hs h⟩
theorem after_lo {ms : List G.Mate} {x : G.Mate} {ws held : List Str} {b : Nat} (hw : LoW ws) (hh : LoW held) {h : List Str} (e : afterT ms x ws held b = some h) : LoW h := by
  unfold afterT at e
  split at e
  · cases e
    exact lo_due hw
  · cases q : rndT (ledT ms fuel) (x.rounds.getD b []) held held 1000 with
    | none => rw [q] at e; cases e
    | some z =>
      obtain ⟨o, l⟩ := z
      rw [q] at e
      cases e
      exact rnd_lo (led_lo ms fuel) _ held 1000 hh hh q
theorem tr_lo {ms : List G.Mate} {x : G.Mate} {ws : List Str} (hw : LoW ws) : ∀ (rest : List (List Str)) {b : Nat} {held : List Str} {fl : Bool}, LoW held → Tr ms x ws b held rest fl → ∀ h ∈ held :: rest, LoW h
  | [], b, held, fl, hh, _, h, hm => by
    obtain rfl := List.mem_singleton.mp hm
    exact hh
  | h1 :: rest, b, held, fl, hh, tr, h, hm => by
    rcases List.mem_cons.mp hm with rfl | hm
    · exact hh
    · exact tr_lo hw rest (after_lo hw hh tr.2.1) tr.2.2 h hm
end GT
namespace GT
open PySem J L2 M GL
noncomputable def tl (s : Str) : List Nat := s.cps.toList
theorem str_ext {a b : Str} (h : tl a = tl b) : a = b := by
  cases a
  cases b
  exact congrArg Str.mk (Array.toList_inj.mp h)
theorem tl_app (a b : Str) : tl (a ++ b) = tl a ++ tl b := by
  show (a.cps ++ b.cps).toList = _
  rw [Array.toList_append]
  rfl
noncomputable def sub (f : Nat → Str) (s : Str) : Str := ⟨((tl s).flatMap fun c => tl (f c)).toArray⟩
theorem tl_sub (f : Nat → Str) (s : Str) : tl (sub f s) = (tl s).flatMap fun c => tl (f c) := rfl
theorem sub_app (f : Nat → Str) (a b : Str) : sub f (a ++ b) = sub f a ++ sub f b := str_ext (by
  rw [tl_sub, tl_app, tl_app, tl_sub, tl_sub, List.flatMap_append])
theorem joinL_nil : ∀ ls : List (List Nat), TL.joinL [] ls = ls.flatten
  | [] => rfl
  | [a] => by
    show a = _
    simp
  | a :: b :: ls => by
    have := joinL_nil (b :: ls)
    show a ++ ([] ++ TL.joinL [] (b :: ls)) = _
    rw [List.nil_append, this]
    rfl
theorem tl_join (ys : List Str) : tl (Txt.join Str.empty ys) = ys.flatMap tl := by
  have h : Txt.join (SX.S []) ((ys.map tl).map SX.S) = SX.S (ys.map tl).flatten := by rw [SX.join_S, joinL_nil]
  have e : (ys.map tl).map SX.S = ys := by
    rw [List.map_map]
    conv => rhs; rw [← List.map_id ys]
    exact List.map_congr_left fun y _ => str_ext rfl
  rw [e] at h
  show tl (Txt.join (SX.S []) ys) = _
  rw [h]
  rfl
theorem sub_join (f : Nat → Str) (ys : List Str) : sub f (Txt.join Str.empty ys) = Txt.join Str.empty (ys.map (sub f)) := str_ext (by
  rw [tl_sub, tl_join, tl_join, List.flatMap_map, List.flatMap_assoc]
  rfl)
theorem getD_sub (f : Nat → Str) (ws : List Str) (p : Nat) : (ws.map (sub f)).getD p Str.empty = sub f (ws.getD p Str.empty) := by
  rw [List.getD_eq_getElem?_getD, List.getD_eq_getElem?_getD, List.getElem?_map]
  cases ws[p]? <;> rfl
theorem there_sub (f : Nat → Str) (ws : List Str) (q : Int) : thereS (ws.map (sub f)) q = sub f (thereS ws q) := by
  unfold thereS
  rw [List.length_map]
  split
  · exact getD_sub f ws _
  · rfl
theorem val_sub (f : Nat → Str) (c : G.Part) (ws : List Str) (p : Nat) : valS c (ws.map (sub f)) p = sub f (valS c ws p) := by
  unfold valS
  rw [there_sub, getD_sub]
  split
  · rfl
  · split
    · rfl
    · split <;> rw [sub_app]
theorem due_sub (f : Nat → Str) (g : Str × Int) (ws : List Str) : dueS g (ws.map (sub f)) = (dueS g ws).map (sub f) := by
  unfold dueS
  rw [List.length_map, List.map_map]
  refine List.map_congr_left fun k _ => ?_
  show GR.dueT g (ws.map (sub f)) k = sub f (GR.dueT g ws k)
  unfold GR.dueT
  rw [sub_join, ← List.map_take, ← List.map_drop]
theorem pick_sub (f : Nat → Str) (c : G.Part) (ws : List Str) : pickS c (ws.map (sub f)) = (pickS c ws).map (sub f) := by
  unfold pickS
  rw [List.length_map, List.map_map]
  exact List.map_congr_left fun p _ => getD_sub f ws p
noncomputable def Has (f : Nat → Str) (ws : List Str) : Prop := ∀ s ∈ ws, ∀ c ∈ tl s, 1 ≤ (f c).length
theorem len_sub {f : Nat → Str} {s : Str} (h : ∀ c ∈ tl s, 1 ≤ (f c).length) : s.length ≤ (sub f s).length := by
  have key : ∀ l : List Nat, (∀ c ∈ l, 1 ≤ (f c).length) → l.length ≤ (l.flatMap fun c => tl (f c)).length := by
    intro l
    induction l with
    | nil => intro _; exact Nat.le_refl _
    | cons c l ih =>
      intro h
      rw [List.flatMap_cons, List.length_append, List.length_cons]
      have h1 : 1 ≤ (tl (f c)).length := h c List.mem_cons_self
      have := ih fun x hx => h x (List.mem_cons_of_mem _ hx)
      omega
  have := key (tl s) h
  show s.cps.size ≤ ((tl s).flatMap fun c => tl (f c)).toArray.size
  rw [List.size_toArray]
  exact this
theorem long_sub {f : Nat → Str} {ws : List Str} (h : Has f ws) (hl : long ws = true) : long (ws.map (sub f)) = true := by
  unfold long at hl ⊢
  rw [List.any_eq_true] at hl ⊢
  obtain ⟨s, hs, hd⟩ := hl
  have := len_sub (h s hs)
  have := of_decide_eq_true hd
  exact ⟨sub f s, List.mem_map_of_mem hs, decide_eq_true (by omega)⟩
noncomputable def HasC (f : Nat → Str) (s : Str) : Prop := ∀ c ∈ tl s, 1 ≤ (f c).length
section
variable {f : Nat → Str}
theorem hasC_emp : HasC f Str.empty := fun c hc => by cases hc
theorem hasC_app {a b : Str} (ha : HasC f a) (hb : HasC f b) : HasC f (a ++ b) := fun c hc => by
  rw [tl_app] at hc
  exact (List.mem_append.mp hc).elim (ha c) (hb c)
theorem has_getD {ws : List Str} (h : Has f ws) (i : Nat) : HasC f (ws.getD i Str.empty) := by
  rw [List.getD_eq_getElem?_getD]
  cases e : ws[i]? with
  | none => exact hasC_emp
  | some w => exact h w (List.mem_iff_getElem?.mpr ⟨i, e⟩)
theorem has_there {ws : List Str} (h : Has f ws) (q : Int) : HasC f (thereS ws q) := by
  unfold thereS
  split
  · exact has_getD h _
  · exact hasC_emp
theorem has_val {ws : List Str} (h : Has f ws) (c : G.Part) (p : Nat) : HasC f (valS c ws p) := by
  unfold valS
  split
  · exact hasC_emp
  · split
    · exact has_there h _
    · split
      · exact hasC_app (has_there h _) (has_getD h p)
      · exact hasC_app (has_getD h p) (has_there h _)
theorem has_put {ps : List Nat} {vs acc : List Str} (h1 : Has f vs) (h2 : Has f acc) : Has f (putL ps vs acc) := by
  unfold putL
  have : ∀ (l : List (Nat × Str)) (acc : List Str), (∀ q ∈ l, HasC f q.2) → Has f acc → Has f (l.foldl (fun a q => a.set q.1 q.2) acc) := by
    intro l
    induction l with
    | nil => intro acc _ h; exact h
    | cons q l ih =>
      intro acc hq h
      rw [List.foldl_cons]
      refine ih _ (fun x hx => hq x (List.mem_cons_of_mem _ hx)) fun w hw => ?_
      rcases List.mem_or_eq_of_mem_set hw with hw | rfl
      · exact h w hw
      · exact hq q List.mem_cons_self
  exact this _ acc (fun q hq => h1 _ (List.of_mem_zip hq).2) h2
theorem has_due {g : Str × Int} {ws : List Str} (h : Has f ws) : Has f (dueS g ws) := fun s hs => by
  obtain ⟨k, _, rfl⟩ := List.mem_map.mp hs
  unfold GR.dueT
  intro c hc
  rw [tl_join] at hc
  obtain ⟨y, hy, hc⟩ := List.mem_flatMap.mp hc
  exact h y (List.mem_of_mem_take (List.mem_of_mem_drop hy)) c hc
theorem has_pick {ws : List Str} (h : Has f ws) (c : G.Part) : Has f (pickS c ws) := fun s hs => by
  obtain ⟨p, _, rfl⟩ := List.mem_map.mp hs
  exact has_getD h p
noncomputable def SubR (f : Nat → Str) (a b : RT) : Prop := (a = none → b = none) ∧ ∀ out l', a = some (out, l') → Has f out ∧ (b = none ∨ b = some (out.map (sub f), l'))
structure SubL (f : Nat → Str) (L : LT) : Prop where
  h : ∀ (nm : Str) (ws : List Str) (l : Nat), Has f ws → SubR f (L nm ws l) (L nm (ws.map (sub f)) l)
theorem cls_sub {L : LT} (hL : SubL f L) (c : G.Part) {ws : List Str} (h : Has f ws) (l : Nat) : SubR f (clsT L c ws l) (clsT L c (ws.map (sub f)) l) := by
  unfold clsT
  rw [List.length_map]
  split
  · split
    · refine ⟨fun z => (by cases z), fun out l' z => ?_⟩
      cases z
      exact ⟨fun s hs => (by cases hs), .inr rfl⟩
    · rw [pick_sub]
      exact hL.h _ _ _ (has_pick h c)
  · refine ⟨fun z => (by cases z), fun out l' z => ?_⟩
    cases z
    refine ⟨fun s hs => ?_, .inr ?_⟩
    · obtain ⟨p, _, rfl⟩ := List.mem_map.mp hs
      exact has_val h c p
    · rw [List.map_map]
      exact congrArg (fun v => some (v, l)) (List.map_congr_left fun p _ => val_sub f c ws p)
theorem rnd_sub {L : LT} (hL : SubL f L) : ∀ (cs : List G.Part) {ws : List Str} (acc : List Str) (l : Nat), Has f ws → Has f acc → SubR f (rndT L cs ws acc l) (rndT L cs (ws.map (sub f)) (acc.map (sub f)) l)
  | [], ws, acc, l, _, ha => by
    unfold rndT
    refine ⟨fun z => ?_, fun out l' z => ?_⟩
    · split at z
      · rename_i hl
        rw [if_pos (long_sub ha hl)]
      · cases z
    · split at z
      · cases z
      · cases z
        refine ⟨ha, ?_⟩
        split
        · exact .inl rfl
        · exact .inr rfl
  | c :: cs, ws, acc, l, hw, ha => by
    obtain ⟨h1, h2⟩ := cls_sub hL c hw l
    unfold rndT
    rw [List.length_map]
    cases e : clsT L c ws l with
    | none =>
      rw [h1 e]
      exact ⟨fun _ => rfl, fun out l' z => by cases z⟩
    | some q =>
      obtain ⟨p, l1⟩ := q
      obtain ⟨hp, h3⟩ := h2 p l1 e
      have ih := rnd_sub hL cs (putL (sp c ws.length) p acc) l1 hw (has_put hp ha)
      rw [← putL_map] at ih
      rcases h3 with h3 | h3
      · rw [h3]
        exact ⟨fun _ => rfl, fun out l' z => ⟨(ih.2 out l' z).1, .inl rfl⟩⟩
      · rw [h3]
        exact ih
theorem run_sub {L : LT} (hL : SubL f L) : ∀ (rs : List (List G.Part)) (ws : List Str) (l : Nat), Has f ws → SubR f (runT L rs ws l) (runT L rs (ws.map (sub f)) l)
  | [], ws, l, h => by
    refine ⟨fun z => (by cases z), fun out l' z => ?_⟩
    cases z
    exact ⟨h, .inr rfl⟩
  | r :: rs, ws, l, h => by
    obtain ⟨h1, h2⟩ := rnd_sub hL r ws l h h
    unfold runT
    cases e : rndT L r ws ws l with
    | none =>
      rw [h1 e]
      exact ⟨fun _ => rfl, fun out l' z => by cases z⟩
    | some q =>
      obtain ⟨p, l1⟩ := q
      obtain ⟨hp, h3⟩ := h2 p l1 e
      have ih := run_sub hL rs p l1 hp
      rcases h3 with h3 | h3
      · rw [h3]
        exact ⟨fun _ => rfl, fun out l' z => ⟨(ih.2 out l' z).1, .inl rfl⟩⟩
      · rw [h3]
        exact ih
theorem led_sub (f : Nat → Str) (ms : List G.Mate) : ∀ n : Nat, SubL f (ledT ms n)
  | 0 => ⟨fun nm ws l h => ⟨fun _ => rfl, fun out l' z => by cases z⟩⟩
  | n + 1 => ⟨fun nm ws l h => by
    unfold ledT
    rw [List.length_map]
    split
    · exact ⟨fun _ => rfl, fun out l' z => by cases z⟩
    · cases e : ms.find? (fun x => decide (x.tag = nm)) with
      | none => exact ⟨fun _ => rfl, fun out l' z => by cases z⟩
      | some x =>
        dsimp only
        split
        · refine ⟨fun z => (by cases z), fun out l' z => ?_⟩
          cases z
          exact ⟨has_due h, .inr (by rw [due_sub])⟩
        · exact run_sub (led_sub f ms n) x.rounds ws (l - 1) h⟩
theorem after_sub (f : Nat → Str) {ms : List G.Mate} {x : G.Mate} {ws held : List Str} {b : Nat} (hw : Has f ws) (hh : Has f held) : (afterT ms x ws held b = none → afterT ms x (ws.map (sub f)) (held.map (sub f)) b = none) ∧ ∀ h, afterT ms x ws held b = some h → Has f h ∧ (afterT ms x (ws.map (sub f)) (held.map (sub f)) b = none ∨ afterT ms x (ws.map (sub f)) (held.map (sub f)) b = some (h.map (sub f))) := by
  unfold afterT
  rw [List.length_map]
  split
  · refine ⟨fun z => (by cases z), fun h z => ?_⟩
    cases z
    exact ⟨has_due hw, .inr (by rw [due_sub])⟩
  · obtain ⟨h1, h2⟩ := rnd_sub (led_sub f ms fuel) (x.rounds.getD b []) held 1000 hh hh
    cases e : rndT (ledT ms fuel) (x.rounds.getD b []) held held 1000 with
    | none =>
      rw [h1 e]
      exact ⟨fun _ => rfl, fun h z => by cases z⟩
    | some q =>
      obtain ⟨o, l⟩ := q
      obtain ⟨hp, h3⟩ := h2 o l e
      refine ⟨fun z => (by cases z), fun h z => ?_⟩
      cases z
      refine ⟨hp, ?_⟩
      rcases h3 with h3 | h3
      · exact .inl (by rw [h3]; rfl)
      · exact .inr (by rw [h3]; rfl)
end
end GT
namespace GT
open PySem J L2 M GL
noncomputable def thereN (ns : List Nat) (q : Int) : Nat := if 0 ≤ q ∧ q < (ns.length : Int) then ns.getD q.toNat 0 else 0
noncomputable def valN (c : G.Part) (ns : List Nat) (p : Nat) : Nat :=
  if c.word = "clear" then 0 else if c.word = "take" then thereN ns ((p : Int) + far c) else thereN ns ((p : Int) + far c) + ns.getD p 0
noncomputable def dueN (g : Str × Int) (ns : List Nat) : List Nat := (List.range ns.length).map fun k => ((ns.take (GR.to_ g k)).drop (GR.from_ g k)).foldr (· + ·) 0
noncomputable def pickN (c : G.Part) (ns : List Nat) : List Nat := (sp c ns.length).map fun p => ns.getD p 0
noncomputable abbrev RN := Option (List Nat × Nat)
noncomputable abbrev LN := Nat → List Nat → Nat → RN
noncomputable abbrev NPart := G.Part × Nat
noncomputable def clsN (L : LN) (c : NPart) (ns : List Nat) (left : Nat) : RN :=
  if c.1.word = "call" then (if sp c.1 ns.length = [] then some ([], left) else L c.2 (pickN c.1 ns) left) else some ((sp c.1 ns.length).map (valN c.1 ns), left)
noncomputable def longN (ns : List Nat) : Bool := ns.any fun n => decide (1000 < n)
noncomputable def rndN (L : LN) : List NPart → List Nat → List Nat → Nat → RN
  | [], _, acc, left => if longN acc = true then none else some (acc, left)
  | c :: cs, ns, acc, left => match clsN L c ns left with
    | none => none
    | some (p, l) => rndN L cs ns (putL (sp c.1 ns.length) p acc) l
noncomputable def runN (L : LN) : List (List NPart) → List Nat → Nat → RN
  | [], ns, left => some (ns, left)
  | r :: rs, ns, left => match rndN L r ns ns left with
    | none => none
    | some (ns', l) => runN L rs ns' l
structure NMate where
  goal : Str × Int
  base : Int
  rounds : List (List NPart)
noncomputable def ledN (ms : List NMate) : Nat → LN
  | 0, _, _, _ => none
  | n + 1, j, ns, left => if left = 0 then none else match ms[j]? with
    | none => none
    | some x => if (ns.length : Int) ≤ x.base then some (dueN x.goal ns, left - 1) else runN (ledN ms n) x.rounds ns (left - 1)
noncomputable def real (tags : List Str) (c : NPart) : G.Part := if c.1.word = "call" then { c.1 with tag := tags.getD c.2 Str.empty } else c.1
noncomputable def mateN (t : Str) (tags : List Str) (x : NMate) : G.Mate := ⟨t, x.goal, x.base, x.rounds.map fun r => r.map (real tags)⟩
noncomputable def matesN (tags : List Str) (ms : List NMate) : List G.Mate := List.zipWith (fun t x => mateN t tags x) tags ms
theorem real_word (tags : List Str) (c : NPart) : (real tags c).word = c.1.word := by unfold real; split <;> rfl
theorem real_sp (tags : List Str) (c : NPart) (n : Nat) : sp (real tags c) n = sp c.1 n := by unfold real; split <;> rfl
theorem real_far (tags : List Str) (c : NPart) : far (real tags c) = far c.1 := by unfold real; split <;> rfl
theorem real_tag {tags : List Str} {c : NPart} (h : c.1.word = "call") : (real tags c).tag = tags.getD c.2 Str.empty := by unfold real; rw [if_pos h]
noncomputable abbrev lens (ws : List Str) : List Nat := ws.map Str.length
theorem len_getD (ws : List Str) (p : Nat) : (lens ws).getD p 0 = (ws.getD p Str.empty).length := by
  rw [List.getD_eq_getElem?_getD, List.getD_eq_getElem?_getD, List.getElem?_map]
  cases ws[p]? <;> rfl
theorem len_there (ws : List Str) (q : Int) : thereN (lens ws) q = (thereS ws q).length := by
  unfold thereN thereS
  rw [List.length_map]
  split
  · exact len_getD ws _
  · rfl
theorem len_val (tags : List Str) (c : NPart) (ws : List Str) (p : Nat) : valN c.1 (lens ws) p = (valS (real tags c) ws p).length := by
  unfold valN valS
  rw [real_word, real_far, len_there, len_getD]
  split
  · rfl
  · split
    · rfl
    · split
      · rw [strLen_append]
      · rw [strLen_append, Nat.add_comm]
theorem len_joinT (ys : List Str) : (Txt.join Str.empty ys).length = (ys.map Str.length).foldr (· + ·) 0 := by
  have h := congrArg List.length (tl_join ys)
  have e : (tl (Txt.join Str.empty ys)).length = (Txt.join Str.empty ys).length := Array.length_toList ..
  rw [e] at h
  rw [h]
  induction ys with
  | nil => rfl
  | cons y ys ih =>
    rw [List.flatMap_cons, List.length_append, List.map_cons, List.foldr_cons]
    have e2 : (tl y).length = y.length := Array.length_toList ..
    rw [e2]
    have h2 := congrArg List.length (tl_join ys)
    have e3 : (tl (Txt.join Str.empty ys)).length = (Txt.join Str.empty ys).length := Array.length_toList ..
    rw [e3] at h2
    rw [ih h2 e3]
theorem len_due (g : Str × Int) (ws : List Str) : dueN g (lens ws) = lens (dueS g ws) := by
  unfold dueN dueS lens
  rw [List.length_map, List.map_map]
  refine List.map_congr_left fun k _ => ?_
  show _ = (GR.dueT g ws k).length
  unfold GR.dueT
  rw [len_joinT, List.map_drop, List.map_take]
theorem len_pick (tags : List Str) (c : NPart) (ws : List Str) : pickN c.1 (lens ws) = lens (pickS (real tags c) ws) := by
  unfold pickN pickS lens
  rw [List.length_map, List.map_map, real_sp]
  exact List.map_congr_left fun p _ => len_getD ws p
theorem len_long (ws : List Str) : longN (lens ws) = long ws := by
  unfold longN long
  rw [List.any_map]
  rfl
noncomputable def lenR (o : RT) : RN := o.map fun q => (lens q.1, q.2)
structure LenL (tags : List Str) (L : LT) (M : LN) : Prop where
  h : ∀ (j : Nat) (ws : List Str) (l : Nat), j < tags.length → M j (lens ws) l = lenR (L (tags.getD j Str.empty) ws l)
noncomputable def InB (n : Nat) (c : NPart) : Prop := c.1.word = "call" → c.2 < n
theorem cls_len {tags : List Str} {L : LT} {M : LN} (hL : LenL tags L M) {c : NPart} (hc : InB tags.length c) (ws : List Str) (l : Nat) : clsN M c (lens ws) l = lenR (clsT L (real tags c) ws l) := by
  unfold clsN clsT
  rw [List.length_map, real_word, real_sp]
  split
  · rename_i hw
    split
    · rfl
    · rw [len_pick tags, hL.h _ _ _ (hc hw), real_tag hw]
  · have e : lens (List.map (valS (real tags c) ws) (sp c.1 ws.length)) = (sp c.1 ws.length).map (valN c.1 (lens ws)) := by
      unfold lens
      rw [List.map_map]
      exact List.map_congr_left fun p _ => (len_val tags c ws p).symm
    exact congrArg (fun v => some (v, l)) e.symm
theorem rnd_len {tags : List Str} {L : LT} {M : LN} (hL : LenL tags L M) : ∀ (cs : List NPart) (ws acc : List Str) (l : Nat), (∀ c ∈ cs, InB tags.length c) → rndN M cs (lens ws) (lens acc) l = lenR (rndT L (cs.map (real tags)) ws acc l)
  | [], ws, acc, l, _ => by
    show rndN M [] _ _ _ = lenR (rndT L [] ws acc l)
    unfold rndN rndT
    rw [len_long]
    split <;> rfl
  | c :: cs, ws, acc, l, h => by
    rw [List.map_cons]
    unfold rndN rndT
    rw [cls_len hL (h c List.mem_cons_self), real_sp, List.length_map]
    cases clsT L (real tags c) ws l with
    | none => rfl
    | some q =>
      obtain ⟨p, l1⟩ := q
      show rndN M cs (lens ws) (putL _ (lens p) (lens acc)) l1 = _
      rw [← rnd_len hL cs ws _ l1 (fun x hx => h x (List.mem_cons_of_mem _ hx)), putL_map]
theorem run_len {tags : List Str} {L : LT} {M : LN} (hL : LenL tags L M) : ∀ (rs : List (List NPart)) (ws : List Str) (l : Nat), (∀ r ∈ rs, ∀ c ∈ r, InB tags.length c) → runN M rs (lens ws) l = lenR (runT L (rs.map fun r => r.map (real tags)) ws l)
  | [], ws, l, _ => rfl
  | r :: rs, ws, l, h => by
    rw [List.map_cons]
    unfold runN runT
    rw [rnd_len hL r ws ws l (h r List.mem_cons_self)]
    cases rndT L (r.map (real tags)) ws ws l with
    | none => rfl
    | some q =>
      obtain ⟨p, l1⟩ := q
      exact run_len hL rs p l1 fun x hx => h x (List.mem_cons_of_mem _ hx)
structure NOk (tags : List Str) (ms : List NMate) : Prop where
  len : ms.length = tags.length
  nd : tags.Nodup
  inb : ∀ x ∈ ms, ∀ r ∈ x.rounds, ∀ c ∈ r, InB tags.length c
theorem find_zip (ts : List Str) : ∀ (tags : List Str) (ms : List NMate) (j : Nat), tags.Nodup → ms.length = tags.length → j < tags.length → (List.zipWith (fun t x => mateN t ts x) tags ms).find? (fun x => decide (x.tag = tags.getD j Str.empty)) = (ms[j]?).map (mateN (tags.getD j Str.empty) ts)
  | [], _, j, _, _, h => absurd h (Nat.not_lt_zero _)
  | _ :: _, [], _, _, h, _ => by simp at h
  | t :: tags, x :: ms, 0, _, _, _ => by
    rw [List.zipWith_cons_cons, List.find?_cons_of_pos (by exact decide_eq_true rfl)]
    rfl
  | t :: tags, x :: ms, j + 1, nd, hl, hj => by
    have hj' : j < tags.length := by simpa using hj
    obtain ⟨n1, n2⟩ := List.nodup_cons.mp nd
    have hne : ¬ t = tags.getD j Str.empty := fun z => n1 (by
      rw [z, List.getD_eq_getElem?_getD, List.getElem?_eq_getElem hj']
      exact List.getElem_mem hj')
    rw [List.zipWith_cons_cons, List.find?_cons_of_neg (by
      show ¬ decide (t = (t :: tags).getD (j + 1) Str.empty) = true
      rw [List.getD_cons_succ]
      simpa using hne)]
    rw [List.getD_cons_succ]
    exact find_zip ts tags ms j n2 (by simpa using hl) hj'
theorem led_len {tags : List Str} {ms : List NMate} (O : NOk tags ms) : ∀ n : Nat, LenL tags (ledT (matesN tags ms) n) (ledN ms n)
  | 0 => ⟨fun j ws l _ => rfl⟩
  | n + 1 => ⟨fun j ws l hj => by
    unfold ledT ledN
    rw [List.length_map]
    split
    · rfl
    · rw [matesN, find_zip tags tags ms j O.nd O.len hj]
      have hjm : j < ms.length := by rw [O.len]; exact hj
      rw [List.getElem?_eq_getElem hjm]
      show (if (ws.length : Int) ≤ ms[j].base then _ else _) = lenR (if (ws.length : Int) ≤ ms[j].base then _ else _)
      split
      · exact congrArg (fun v => some (v, l - 1)) (len_due _ _)
      · exact run_len (led_len O n) ms[j].rounds ws (l - 1) fun r hr c hc => O.inb _ (List.getElem_mem hjm) r hr c hc⟩
noncomputable def afterN (ms : List NMate) (x : NMate) (ns held : List Nat) (b : Nat) : Option (List Nat) :=
  if (ns.length : Int) ≤ x.base then some (dueN x.goal ns) else (rndN (ledN ms fuel) (x.rounds.getD b []) held held 1000).map (·.1)
theorem after_len {tags : List Str} {ms : List NMate} (O : NOk tags ms) {t : Str} {x : NMate} (hx : x ∈ ms) (ws held : List Str) (b : Nat) : afterN ms x (lens ws) (lens held) b = (afterT (matesN tags ms) (mateN t tags x) ws held b).map lens := by
  unfold afterN afterT
  rw [List.length_map]
  show (if (ws.length : Int) ≤ x.base then _ else _) = Option.map lens (if (ws.length : Int) ≤ x.base then _ else _)
  split
  · show _ = some _
    rw [len_due]
    rfl
  · have e : (mateN t tags x).rounds.getD b [] = (x.rounds.getD b []).map (real tags) := by
      show (x.rounds.map fun r => r.map (real tags)).getD b [] = _
      rw [List.getD_eq_getElem?_getD, List.getD_eq_getElem?_getD, List.getElem?_map]
      cases x.rounds[b]? <;> rfl
    rw [e, rnd_len (led_len O fuel) (x.rounds.getD b []) held held 1000 (fun c hc => ?_)]
    · show Option.map (·.1) (lenR (rndT (ledT (matesN tags ms) fuel) _ held held 1000)) = _
      cases rndT (ledT (matesN tags ms) fuel) ((x.rounds.getD b []).map (real tags)) held held 1000 <;> rfl
    · rw [List.getD_eq_getElem?_getD] at hc
      cases e : x.rounds[b]? with
      | none => rw [e] at hc; cases hc
      | some r =>
        rw [e] at hc
        exact O.inb x hx r (List.mem_iff_getElem?.mpr ⟨b, e⟩) c hc
end GT
namespace G
open PySem J
noncomputable def call1 (t : Str) : List Part := [⟨"call", 0, 1, Str.empty, 0, t⟩]
noncomputable def joinP (b : Int) (side : Str) (far o : Int) : Part := ⟨"join", o, b, side, far, Str.empty⟩
noncomputable def head27 (p : Pu) : Int × Int × Str × Pu := (1 + (draw 3 p).1, 1 + (draw 2 (draw 3 p).2).1, (pick Str.empty ["left", "right"] (draw 2 (draw 3 p).2).2).1, (pick Str.empty ["left", "right"] (draw 2 (draw 3 p).2).2).2)
noncomputable def round27 (last : Bool) (t : Str) (p : Pu) : List Part × Pu := (if last = true then (overs (head27 p).1.toNat (head27 p).2.2.2).1.map (joinP (head27 p).1 (head27 p).2.2.1 (head27 p).2.1) else call1 t, (overs (head27 p).1.toNat (head27 p).2.2.2).2)
noncomputable def lines27 (last : Bool) (t : Str) (p : Pu) : List (List Part) × Pu := run (fun (_ : Nat) => round27 last t) (List.range (1 + (draw 4 p).1).toNat) (draw 4 p).2
noncomputable def mate27 (tags : List Str) (k : Nat) (p : Pu) : Mate × Pu := (⟨tags.getD k Str.empty, (goalD (lines27 (decide (k + 1 = tags.length)) (tags.getD (k + 1) Str.empty) p).2).1, 1 + (draw 4 (goalD (lines27 (decide (k + 1 = tags.length)) (tags.getD (k + 1) Str.empty) p).2).2).1, (lines27 (decide (k + 1 = tags.length)) (tags.getD (k + 1) Str.empty) p).1⟩, (draw 4 (goalD (lines27 (decide (k + 1 = tags.length)) (tags.getD (k + 1) Str.empty) p).2).2).2)
theorem run_at {α β : Type} {f : β → Pu → α × Pu} (hf : ∀ b q, q.ok → (f b q).2.ok) : ∀ (bs : List β) (p : Pu), p.ok → ∀ (i : Nat) (x : α), (run f bs p).1[i]? = some x → ∃ b q, bs[i]? = some b ∧ q.ok ∧ x = (f b q).1
  | [], p, _, i, x, h => by simp [run] at h
  | b :: bs, p, hp, 0, x, h => ⟨b, p, rfl, hp, (Option.some.inj h).symm⟩
  | b :: bs, p, hp, i + 1, x, h => by
    have h' : (run f bs (f b p).2).1[i]? = some x := h
    obtain ⟨c, q, h1, h2, h3⟩ := run_at hf bs (f b p).2 (hf b p hp) i x h'
    exact ⟨c, q, h1, h2, h3⟩
end G
namespace N
open PySem J L2
theorem up1 {x : Int} (h : 0 ≤ x) : 1 ≤ 1 + x := by omega
theorem to1 {x m : Int} (h : x < m) : 1 + x ≤ m := by omega
theorem zo {x : Int} (h : 0 ≤ x) (h1 : x < 2) : x = 0 ∨ x = 1 := by omega
theorem tn2 {x : Int} (h : 1 ≤ x) : 1 ≤ x.toNat := by omega
theorem b23 {x : Int} {n : Nat} (h : 0 ≤ x) (h1 : x < 2) (e : 2 + x = (n : Int)) : 2 ≤ n ∧ n ≤ 4 := by omega
theorem b12 {x : Int} {n : Nat} (h1 : x < 4) (e : 1 + x = (n : Int)) : n ≤ 12 := by omega
theorem tn1 {x : Int} {l : Nat} (h : 0 ≤ x) (h1 : x < 4) (e : l = (1 + x).toNat) : 1 ≤ l ∧ l ≤ 4 := by omega
theorem goalD_gg {p : G.Pu} (h : p.ok) : GL.Gg (G.goalD p).1 := by
  obtain ⟨a0, a1, h1⟩ := G.draw_ok (m := 4) h (by decide)
  obtain ⟨b0, b1, h2⟩ := G.draw_ok (m := 4) h1 (by decide)
  unfold G.goalD
  dsimp only
  split
  · rename_i hlt
    have : (G.draw 4 p).1 = 0 ∨ (G.draw 4 p).1 = 1 := zo a0 hlt
    rcases this with e | e
    · rw [e]
      exact ⟨.inl ⟨rfl, rfl⟩⟩
    · rw [e]
      exact ⟨.inr (.inl ⟨rfl, rfl⟩)⟩
  · exact ⟨.inr (.inr ⟨rfl, up1 b0, to1 b1⟩)⟩
theorem call1_round {t : Str} (ht : M.nameOk t = true) {lower tags : List Str} (hm : t ∈ lower) : RoundGood lower tags (G.call1 t) := by
  refine ⟨⟨Nat.le_refl 1, show 1 ≤ 3 by decide⟩, fun x hx => ?_, ⟨1, fun x hx => ?_⟩, by simp [G.call1], .inl fun x hx => ?_⟩
  · obtain rfl := List.mem_singleton.mp hx
    exact ⟨⟨show (1 : Int) ≤ 1 by decide, show (1 : Int) ≤ 3 by decide⟩, ⟨show (0 : Int) ≤ 0 by decide, show (0 : Int) < 1 by decide⟩, .inl ⟨rfl, ht, rfl, rfl⟩⟩
  · obtain rfl := List.mem_singleton.mp hx
    rfl
  · obtain rfl := List.mem_singleton.mp hx
    exact ⟨rfl, by rw [if_pos rfl]; exact hm⟩
theorem joins_round {lower tags : List Str} {b : Int} (hb : 1 ≤ b ∧ b ≤ 3) {side : Str} (hs : side = "left" ∨ side = "right") {far : Int} (hf : 1 ≤ far ∧ far ≤ 4) {os : List Int} (h1 : 1 ≤ os.length) (h3 : os.length ≤ 3) (hn : os.Nodup) (ho : ∀ o ∈ os, 0 ≤ o ∧ o < b) : RoundGood lower tags (os.map (G.joinP b side far)) := by
  refine ⟨by rw [List.length_map]; omega, fun x hx => ?_, ⟨b, fun x hx => ?_⟩, ?_, .inr fun x hx => ?_⟩
  · obtain ⟨o, h, rfl⟩ := List.mem_map.mp hx
    exact ⟨hb, ho o h, .inr (.inr ⟨.inl rfl, hs, hf.1, hf.2, rfl⟩)⟩
  · obtain ⟨o, h, rfl⟩ := List.mem_map.mp hx
    rfl
  · rw [List.map_map]
    have : (fun x : G.Part => x.over) ∘ G.joinP b side far = id := rfl
    show (os.map ((fun x : G.Part => x.over) ∘ G.joinP b side far)).Nodup
    rw [this, List.map_id]
    exact hn
  · obtain ⟨o, h, rfl⟩ := List.mem_map.mp hx
    show ("join" : Str) ≠ "call"
    decide +kernel
theorem head27_ok {p : G.Pu} (hp : p.ok) : (1 ≤ (G.head27 p).1 ∧ (G.head27 p).1 ≤ 3) ∧ (1 ≤ (G.head27 p).2.1 ∧ (G.head27 p).2.1 ≤ 2) ∧ ((G.head27 p).2.2.1 = "left" ∨ (G.head27 p).2.2.1 = "right") ∧ (G.head27 p).2.2.2.ok := by
  obtain ⟨b0, b1, h2⟩ := G.draw_ok (m := 3) hp (by decide)
  obtain ⟨c0, c1, h3⟩ := G.draw_ok (m := 2) h2 (by decide)
  obtain ⟨d0, h4⟩ := G.pick_ok (d := Str.empty) (l := ["left", "right"]) h3 (by decide)
  refine ⟨⟨?_, ?_⟩, ⟨?_, ?_⟩, ?_, h4⟩
  · exact up1 b0
  · exact to1 b1
  · exact up1 c0
  · exact to1 c1
  · have d1 : (G.pick Str.empty ["left", "right"] (G.draw 2 (G.draw 3 p).2).2).1 = "left" ∨ (G.pick Str.empty ["left", "right"] (G.draw 2 (G.draw 3 p).2).2).1 = "right" := by simpa using d0
    exact d1
theorem round27_ok {last : Bool} {t : Str} {p : G.Pu} (hp : p.ok) : (G.round27 last t p).2.ok := by
  obtain ⟨h1, _, _, h4⟩ := head27_ok hp
  exact (overs_ok (b := (G.head27 p).1.toNat) h4 (tn2 h1.1)).1
theorem lines27_ok {last : Bool} {t : Str} {p : G.Pu} (hp : p.ok) : (G.lines27 last t p).2.ok := (G.run_ok (R := fun _ _ => True) (f := fun (_ : Nat) => G.round27 last t) _ _ (fun _ _ _ hq => ⟨trivial, round27_ok hq⟩) (G.draw_ok (m := 4) hp (by decide)).2.2).2
theorem round27_good {last : Bool} {t : Str} {p : G.Pu} (hp : p.ok) {lower tags : List Str} (ht : last = false → M.nameOk t = true ∧ t ∈ lower) : RoundGood lower tags (G.round27 last t p).1 ∧ (G.round27 last t p).2.ok := by
  obtain ⟨h1, h2, h3, h4⟩ := head27_ok hp
  obtain ⟨o1, o2, o3, o4, o5⟩ := overs_ok (b := (G.head27 p).1.toNat) h4 (tn2 h1.1)
  refine ⟨?_, o1⟩
  unfold G.round27
  cases last with
  | true =>
    dsimp only
    rw [if_pos rfl]
    exact joins_round h1 h3 ⟨h2.1, by omega⟩ o3 (by omega) o4 (fun o ho => by have := o5 o ho; omega)
  | false =>
    dsimp only
    rw [if_neg Bool.false_ne_true]
    exact call1_round (ht rfl).1 (ht rfl).2
theorem lines27_good {last : Bool} {t : Str} {p : G.Pu} (hp : p.ok) {lower tags : List Str} (ht : last = false → M.nameOk t = true ∧ t ∈ lower) : (∀ r ∈ (G.lines27 last t p).1, RoundGood lower tags r) ∧ (G.lines27 last t p).2.ok ∧ 1 ≤ (G.lines27 last t p).1.length ∧ (G.lines27 last t p).1.length ≤ 5 := by
  obtain ⟨n0, n1, h3⟩ := G.draw_ok (m := 4) hp (by decide)
  have hr := G.run_ok (R := fun _ r => RoundGood lower tags r) (f := fun (_ : Nat) => G.round27 last t) (List.range (1 + (G.draw 4 p).1).toNat) (G.draw 4 p).2 (fun b _ q hq => round27_good hq ht) h3
  have hl := G.run_len (fun (_ : Nat) => G.round27 last t) (List.range (1 + (G.draw 4 p).1).toNat) (G.draw 4 p).2
  rw [List.length_range] at hl
  have hb := tn1 n0 n1 hl
  refine ⟨fun r hr' => ?_, hr.2, ?_, ?_⟩
  · obtain ⟨_, _, z⟩ := hr.1 r hr'
    exact z
  · unfold G.lines27
    exact hb.1
  · unfold G.lines27
    exact Nat.le_trans hb.2 (by decide)
theorem mate27_ok {tags : List Str} {k : Nat} {p : G.Pu} (hp : p.ok) : (G.mate27 tags k p).2.ok := by
  have h1 := lines27_ok (last := decide (k + 1 = tags.length)) (t := tags.getD (k + 1) Str.empty) hp
  exact (G.draw_ok (m := 4) (goal_ok h1) (by decide)).2.2
theorem mate27_good {tags : List Str} (hn : NamesOk tags) {k : Nat} (hk : k < tags.length) {p : G.Pu} (hp : p.ok) : MateGood tags k (G.mate27 tags k p).1 ∧ GL.Gg (G.mate27 tags k p).1.goal := by
  have hl := lines27_good (last := decide (k + 1 = tags.length)) (t := tags.getD (k + 1) Str.empty) hp (lower := tags.drop (k + 1)) (tags := tags) (fun hz => by
    have hz' := of_decide_eq_false hz
    have h1 : k + 1 < tags.length := by omega
    have e : tags.getD (k + 1) Str.empty = tags[k + 1] := by
      rw [List.getD_eq_getElem?_getD, List.getElem?_eq_getElem h1]
      rfl
    rw [e]
    refine ⟨hn _ (List.getElem_mem h1), List.mem_iff_getElem?.mpr ⟨0, ?_⟩⟩
    rw [List.getElem?_drop]
    exact List.getElem?_eq_getElem h1)
  obtain ⟨l1, l2, l3, l4⟩ := hl
  obtain ⟨b0, b1, _⟩ := G.draw_ok (m := 4) (goal_ok l2) (by decide)
  refine ⟨⟨?_, goal_good l2, ⟨?_, ?_⟩, ⟨l3, l4⟩, l1⟩, goalD_gg l2⟩
  · show tags[k]? = some (tags.getD k Str.empty)
    rw [List.getD_eq_getElem?_getD, List.getElem?_eq_getElem hk]
    rfl
  · exact up1 b0
  · exact to1 b1
theorem mates27_good {tags : List Str} (hn : NamesOk tags) (hd : tags.Nodup) (h1 : 1 ≤ tags.length) (h4 : tags.length ≤ 4) {p : G.Pu} (hp : p.ok) : MatesGood tags (G.run (G.mate27 tags) (List.range tags.length) p).1 ∧ ∀ x ∈ (G.run (G.mate27 tags) (List.range tags.length) p).1, GL.Gg x.goal := by
  have at_ : ∀ (i : Nat) (x : G.Mate), (G.run (G.mate27 tags) (List.range tags.length) p).1[i]? = some x → MateGood tags i x ∧ GL.Gg x.goal := fun i x hx => by
    obtain ⟨b, q, hb, hq, rfl⟩ := G.run_at (fun b q hq => mate27_ok hq) _ _ hp i x hx
    have hi : i < tags.length := by
      have := (List.getElem?_eq_some_iff.mp hb).1
      rwa [List.length_range] at this
    rw [List.getElem?_range hi] at hb
    obtain rfl := Option.some.inj hb
    exact mate27_good hn hi hq
  refine ⟨⟨?_, ⟨h1, h4⟩, hn, hd, fun i x hx => (at_ i x hx).1⟩, fun x hx => ?_⟩
  · rw [G.run_len, List.length_range]
  · obtain ⟨i, hi⟩ := List.mem_iff_getElem?.mp hx
    exact (at_ i x hi).2
end N
namespace GT
open PySem J L2
noncomputable def lastN (ms : List NMate) (x : NMate) (ns : List Nat) : Nat → List Nat → Nat → Option (List Nat)
  | 0, held, _ => some held
  | n + 1, held, b => match afterN ms x ns held b with
    | none => none
    | some h => lastN ms x ns n h (b + 1)
theorem last_len {tags : List Str} {ms : List NMate} (O : NOk tags ms) {t : Str} {x : NMate} (hx : x ∈ ms) (ws : List Str) : ∀ (n : Nat) (held : List Str) (b : Nat), lastN ms x (lens ws) n (lens held) b = (lastT (matesN tags ms) (mateN t tags x) ws n held b).map lens
  | 0, held, b => rfl
  | n + 1, held, b => by
    unfold lastN lastT
    rw [after_len (t := t) O hx]
    cases afterT (matesN tags ms) (mateN t tags x) ws held b with
    | none => rfl
    | some h => exact last_len O hx ws n h (b + 1)
theorem last_split {ms : List G.Mate} {x : G.Mate} {ws : List Str} {n : Nat} {held : List Str} {b : Nat} {o : Option (List Str)} (e : lastT ms x ws (n + 1) held b = o) : (afterT ms x ws held b = none ∧ o = none) ∨ ∃ h, afterT ms x ws held b = some h ∧ lastT ms x ws n h (b + 1) = o := by
  unfold lastT at e
  cases q : afterT ms x ws held b with
  | none =>
    rw [q] at e
    exact .inl ⟨rfl, e.symm⟩
  | some h =>
    rw [q] at e
    exact .inr ⟨h, rfl, e⟩
noncomputable def gS (c a : Nat) : Str := if a = c then ⟨#[97]⟩ else Str.empty
theorem gS_has {c : Nat} {ws : List Str} : Has (gS c) ws ↔ ∀ s ∈ ws, ∀ a ∈ tl s, a = c := by
  refine ⟨fun h s hs a ha => ?_, fun h s hs a ha => ?_⟩
  · have := h s hs a ha
    unfold gS at this
    split at this
    · assumption
    · exact absurd this (Nat.not_succ_le_zero 0)
  · unfold gS
    rw [if_pos (h s hs a ha)]
    exact Nat.le_refl 1
noncomputable def mulS (c n : Nat) : Str := ⟨(List.replicate n c).toArray⟩
theorem mulS_len (c n : Nat) : (mulS c n).length = n := by
  show (List.replicate n c).toArray.size = n
  rw [List.size_toArray, List.length_replicate]
theorem fold_app (a : Array Nat) : ∀ (n : Nat) (acc : Array Nat), (List.foldl (fun x1 x2 => x1 ++ x2) acc (List.replicate n a)).toList = acc.toList ++ (List.replicate n a.toList).flatten
  | 0, acc => by simp
  | n + 1, acc => by
    rw [List.replicate_succ, List.foldl_cons, fold_app a n, Array.toList_append, List.replicate_succ, List.flatten_cons, List.append_assoc]
theorem mul_is (c n : Nat) (h : 1 ≤ n) : Txt.mul ⟨#[c]⟩ (n : Int) = mulS c n := by
  refine str_ext ?_
  have e2 : tl (mulS c n) = List.replicate n c := rfl
  rw [e2]
  unfold Txt.mul
  rw [if_neg (by omega)]
  by_cases h1 : n = 1
  · subst h1
    rfl
  · rw [if_neg (by
      have : ((n : Int) == 1) = false := beq_eq_false_iff_ne.mpr (by omega)
      rw [this]
      show ¬ (false || ((⟨#[c]⟩ : Str).length == 0)) = true
      have e : ((⟨#[c]⟩ : Str).length == 0) = false := rfl
      rw [e]
      decide)]
    show (List.foldl (fun x1 x2 => x1 ++ x2) #[] (List.replicate (n : Int).toNat #[c])).toList = _
    rw [fold_app, Int.toNat_natCast]
    show [] ++ (List.replicate n [c]).flatten = _
    rw [List.nil_append]
    clear h h1 e2
    induction n with
    | zero => rfl
    | succ n ih => rw [List.replicate_succ, List.flatten_cons, ih, List.replicate_succ]; rfl
theorem one_letter {c : Nat} {s : Str} (h : ∀ a ∈ tl s, a = c) : s = mulS c s.length := str_ext (by
  show tl s = List.replicate s.length c
  have hl : (tl s).length = s.length := Array.length_toList ..
  rw [← hl]
  exact List.eq_replicate_of_mem h)
theorem only_last {c : Nat} {ms : List G.Mate} {x : G.Mate} {ws : List Str} (hw : Has (gS c) ws) : ∀ (n : Nat) (held : List Str) (b : Nat), Has (gS c) held → ∀ {h : List Str}, lastT ms x ws n held b = some h → Has (gS c) h
  | 0, held, b, hh, h, e => by
    cases e
    exact hh
  | n + 1, held, b, hh, h, e => by
    unfold lastT at e
    cases q : afterT ms x ws held b with
    | none => rw [q] at e; cases e
    | some h1 =>
      rw [q] at e
      exact only_last hw n h1 (b + 1) ((after_sub (gS c) hw hh).2 h1 q).1 e
end GT
namespace G
open PySem J
noncomputable def jn1 (far : Int) : Part := joinP 1 "left" far 0
noncomputable def jn2 : Part := joinP 3 "left" 1 2
noncomputable def cl0 : Part := ⟨"clear", 0, 1, Str.empty, 0, Str.empty⟩
end G
namespace GT
open PySem J L2
noncomputable def call1N (j : Nat) : List NPart := [(⟨"call", 0, 1, Str.empty, 0, Str.empty⟩, j)]
theorem call1N_real {tags : List Str} {t : Str} {j : Nat} (h : tags.getD j Str.empty = t) : (call1N j).map (real tags) = G.call1 t := by
  show [real tags (⟨"call", 0, 1, Str.empty, 0, Str.empty⟩, j)] = _
  have hw : ((⟨"call", 0, 1, Str.empty, 0, Str.empty⟩, j) : NPart).1.word = "call" := rfl
  unfold real
  rw [if_pos hw]
  show [(⟨"call", 0, 1, Str.empty, 0, tags.getD j Str.empty⟩ : G.Part)] = _
  rw [h]
  rfl
theorem real_no {tags : List Str} {c : G.Part} (h : ¬ c.word = "call") (j : Nat) : real tags (c, j) = c := by
  unfold real
  rw [if_neg h]
theorem jn1_w (f : Int) : ¬ (G.jn1 f).word = "call" := by
  show ¬ ("join" : Str) = "call"
  decide +kernel
theorem jn2_w : ¬ G.jn2.word = "call" := by
  show ¬ ("join" : Str) = "call"
  decide +kernel
theorem cl0_w : ¬ G.cl0.word = "call" := by
  show ¬ ("clear" : Str) = "call"
  decide +kernel
noncomputable def top27 : NMate := ⟨("all", 0), 1, [[(G.jn1 1, 0)], [(G.jn1 2, 0)], [(G.jn1 4, 0)], call1N 1]⟩
noncomputable def hand27 : List NMate := [top27, ⟨("last", 2), 1, List.replicate 3 (call1N 2)⟩, ⟨("before", 0), 1, List.replicate 3 (call1N 3)⟩, ⟨("all", 0), 1, List.replicate 4 [(G.jn2, 0)]⟩]
noncomputable def top27T (t0 t1 : Str) : G.Mate := ⟨t0, ("all", 0), 1, [[G.jn1 1], [G.jn1 2], [G.jn1 4], G.call1 t1]⟩
noncomputable def hand27T (t0 t1 t2 t3 : Str) : List G.Mate := [top27T t0 t1, ⟨t1, ("last", 2), 1, List.replicate 3 (G.call1 t2)⟩, ⟨t2, ("before", 0), 1, List.replicate 3 (G.call1 t3)⟩, ⟨t3, ("all", 0), 1, List.replicate 4 [G.jn2]⟩]
theorem top27_eq (t0 t1 t2 t3 : Str) : mateN t0 [t0, t1, t2, t3] top27 = top27T t0 t1 := by
  have e1 : (call1N 1).map (real [t0, t1, t2, t3]) = G.call1 t1 := call1N_real rfl
  unfold mateN top27 top27T
  simp only [List.map_cons, List.map_nil, e1, real_no (jn1_w _)]
theorem hand27_eq (t0 t1 t2 t3 : Str) : matesN [t0, t1, t2, t3] hand27 = hand27T t0 t1 t2 t3 := by
  have e2 : (call1N 2).map (real [t0, t1, t2, t3]) = G.call1 t2 := call1N_real rfl
  have e3 : (call1N 3).map (real [t0, t1, t2, t3]) = G.call1 t3 := call1N_real rfl
  have e0 := top27_eq t0 t1 t2 t3
  unfold matesN hand27 hand27T
  rw [List.zipWith_cons_cons, e0]
  simp only [List.zipWith_cons_cons, List.zipWith_nil_left, mateN, List.map_replicate, List.map_cons, List.map_nil, e2, e3, real_no jn2_w]
noncomputable def ns11 : List Nat := [1, 1, 1, 1, 4, 4, 4, 4, 4, 4, 2]
theorem hand27_num : ((lastN hand27 top27 (ns11 ++ [2]) 4 (ns11 ++ [2]) 0).map fun h => h.getD 11 0) = some 1000 ∧ ((lastN hand27 top27 (ns11 ++ [3]) 3 (ns11 ++ [3]) 0).map fun h => h.getD 11 0) = some 29 ∧ lastN hand27 top27 (ns11 ++ [3]) 4 (ns11 ++ [3]) 0 = none := by decide +kernel
noncomputable def topC : NMate := ⟨("all", 0), 1, [call1N 1]⟩
noncomputable def clrN : List NMate := [topC, ⟨("all", 0), 1, [call1N 2, call1N 2, [(G.cl0, 0)]]⟩, ⟨("all", 0), 1, List.replicate 5 [(G.jn1 1, 0)]⟩]
noncomputable def topCT (t0 t1 : Str) : G.Mate := ⟨t0, ("all", 0), 1, [G.call1 t1]⟩
noncomputable def clrT (t0 t1 t2 : Str) : List G.Mate := [topCT t0 t1, ⟨t1, ("all", 0), 1, [G.call1 t2, G.call1 t2, [G.cl0]]⟩, ⟨t2, ("all", 0), 1, List.replicate 5 [G.jn1 1]⟩]
theorem topC_eq (t0 t1 t2 : Str) : mateN t0 [t0, t1, t2] topC = topCT t0 t1 := by
  have e1 : (call1N 1).map (real [t0, t1, t2]) = G.call1 t1 := call1N_real rfl
  unfold mateN topC topCT
  simp only [List.map_cons, List.map_nil, e1]
theorem clr_eq (t0 t1 t2 : Str) : matesN [t0, t1, t2] clrN = clrT t0 t1 t2 := by
  have e2 : (call1N 2).map (real [t0, t1, t2]) = G.call1 t2 := call1N_real rfl
  have e0 := topC_eq t0 t1 t2
  unfold matesN clrN clrT
  rw [List.zipWith_cons_cons, e0]
  simp only [List.zipWith_cons_cons, List.zipWith_nil_left, mateN, List.map_replicate, List.map_cons, List.map_nil, e2, real_no cl0_w, real_no (jn1_w _)]
theorem clr_num : afterN clrN topC (List.replicate 12 2) (List.replicate 12 2) 0 = none := by decide +kernel
end GT
namespace GT
open PySem J L2
theorem jn_round {lower tags : List Str} {far : Int} (hf : 1 ≤ far ∧ far ≤ 4) : N.RoundGood lower tags [G.jn1 far] := N.joins_round (b := 1) (os := [0]) (by decide) (.inl rfl) hf (by decide) (by decide) (by decide) (by decide)
theorem jn2_round {lower tags : List Str} : N.RoundGood lower tags [G.jn2] := N.joins_round (b := 3) (os := [2]) (by decide) (.inl rfl) (by decide) (by decide) (by decide) (by decide) (by decide)
theorem cl0_round {lower tags : List Str} : N.RoundGood lower tags [G.cl0] := by
  refine ⟨⟨Nat.le_refl 1, show 1 ≤ 3 by decide⟩, fun x hx => ?_, ⟨1, fun x hx => ?_⟩, by simp, .inr fun x hx => ?_⟩
  · obtain rfl := List.mem_singleton.mp hx
    exact ⟨⟨show (1 : Int) ≤ 1 by decide, show (1 : Int) ≤ 3 by decide⟩, ⟨show (0 : Int) ≤ 0 by decide, show (0 : Int) < 1 by decide⟩, .inr (.inl ⟨rfl, rfl, rfl, rfl⟩)⟩
  · obtain rfl := List.mem_singleton.mp hx
    rfl
  · obtain rfl := List.mem_singleton.mp hx
    exact cl0_w
theorem g_all : M.isGoal (.str (G.aim ("all", 0))) = true ∧ ("all" : Str).length ≤ 8 ∧ (0 : Int) ≤ 0 ∧ (0 : Int) ≤ 9 := by decide +kernel
theorem g_bef : M.isGoal (.str (G.aim ("before", 0))) = true ∧ ("before" : Str).length ≤ 8 ∧ (0 : Int) ≤ 0 ∧ (0 : Int) ≤ 9 := by decide +kernel
theorem g_las : M.isGoal (.str (G.aim ("last", 2))) = true ∧ ("last" : Str).length ≤ 8 ∧ (0 : Int) ≤ 2 ∧ (2 : Int) ≤ 9 := by decide +kernel
theorem b_one : (1 : Int) ≤ 1 ∧ (1 : Int) ≤ 4 := by decide
theorem hand27_good {t0 t1 t2 t3 : Str} (hn : NamesOk [t0, t1, t2, t3]) (hd : [t0, t1, t2, t3].Nodup) : N.MatesGood [t0, t1, t2, t3] (hand27T t0 t1 t2 t3) ∧ ∀ y ∈ hand27T t0 t1 t2 t3, GL.Gg y.goal := by
  have n1 : M.nameOk t1 = true := hn t1 (by simp)
  have n2 : M.nameOk t2 = true := hn t2 (by simp)
  have n3 : M.nameOk t3 = true := hn t3 (by simp)
  refine ⟨⟨rfl, ⟨show 1 ≤ 4 by decide, Nat.le_refl 4⟩, hn, hd, fun i x hx => ?_⟩, fun y hy => ?_⟩
  · match i, hx with
    | 0, hx =>
      cases hx
      refine ⟨rfl, g_all, b_one, ⟨show 1 ≤ 4 by decide, show 4 ≤ 5 by decide⟩, fun r hr => ?_⟩
      have hr' : r ∈ [[G.jn1 1], [G.jn1 2], [G.jn1 4], G.call1 t1] := hr
      simp only [List.mem_cons, List.not_mem_nil, or_false] at hr'
      rcases hr' with rfl | rfl | rfl | rfl
      · exact jn_round (by decide)
      · exact jn_round (by decide)
      · exact jn_round (by decide)
      · exact N.call1_round n1 (by simp)
    | 1, hx =>
      cases hx
      refine ⟨rfl, g_las, b_one, ⟨show 1 ≤ 3 by decide, show 3 ≤ 5 by decide⟩, fun r hr => ?_⟩
      have : r = G.call1 t2 := List.eq_of_mem_replicate hr
      rw [this]
      exact N.call1_round n2 (by simp)
    | 2, hx =>
      cases hx
      refine ⟨rfl, g_bef, b_one, ⟨show 1 ≤ 3 by decide, show 3 ≤ 5 by decide⟩, fun r hr => ?_⟩
      have : r = G.call1 t3 := List.eq_of_mem_replicate hr
      rw [this]
      exact N.call1_round n3 (by simp)
    | 3, hx =>
      cases hx
      refine ⟨rfl, g_all, b_one, ⟨show 1 ≤ 4 by decide, show 4 ≤ 5 by decide⟩, fun r hr => ?_⟩
      have : r = [G.jn2] := List.eq_of_mem_replicate hr
      rw [this]
      exact jn2_round
    | i + 4, hx => cases hx
  · simp only [hand27T, List.mem_cons, List.not_mem_nil, or_false] at hy
    rcases hy with rfl | rfl | rfl | rfl
    · exact ⟨.inl ⟨rfl, rfl⟩⟩
    · exact ⟨.inr (.inr ⟨rfl, show (1 : Int) ≤ 2 by decide, show (2 : Int) ≤ 4 by decide⟩)⟩
    · exact ⟨.inr (.inl ⟨rfl, rfl⟩)⟩
    · exact ⟨.inl ⟨rfl, rfl⟩⟩
theorem clr_good {t0 t1 t2 : Str} (hn : NamesOk [t0, t1, t2]) (hd : [t0, t1, t2].Nodup) : N.MatesGood [t0, t1, t2] (clrT t0 t1 t2) ∧ ∀ y ∈ clrT t0 t1 t2, GL.Gg y.goal := by
  have n1 : M.nameOk t1 = true := hn t1 (by simp)
  have n2 : M.nameOk t2 = true := hn t2 (by simp)
  refine ⟨⟨rfl, ⟨show 1 ≤ 3 by decide, show 3 ≤ 4 by decide⟩, hn, hd, fun i x hx => ?_⟩, fun y hy => ?_⟩
  · match i, hx with
    | 0, hx =>
      cases hx
      refine ⟨rfl, g_all, b_one, ⟨Nat.le_refl 1, show 1 ≤ 5 by decide⟩, fun r hr => ?_⟩
      obtain rfl := List.mem_singleton.mp hr
      exact N.call1_round n1 (by simp)
    | 1, hx =>
      cases hx
      refine ⟨rfl, g_all, b_one, ⟨show 1 ≤ 3 by decide, show 3 ≤ 5 by decide⟩, fun r hr => ?_⟩
      have hr' : r ∈ [G.call1 t2, G.call1 t2, [G.cl0]] := hr
      simp only [List.mem_cons, List.not_mem_nil, or_false] at hr'
      rcases hr' with rfl | rfl | rfl
      · exact N.call1_round n2 (by simp)
      · exact N.call1_round n2 (by simp)
      · exact cl0_round
    | 2, hx =>
      cases hx
      refine ⟨rfl, g_all, b_one, ⟨show 1 ≤ 5 by decide, show 5 ≤ 5 by decide⟩, fun r hr => ?_⟩
      have : r = [G.jn1 1] := List.eq_of_mem_replicate hr
      rw [this]
      exact jn_round (by decide)
    | i + 3, hx => cases hx
  · simp only [clrT, List.mem_cons, List.not_mem_nil, or_false] at hy
    rcases hy with rfl | rfl | rfl <;> exact ⟨.inl ⟨rfl, rfl⟩⟩
theorem hand27_inb {t0 t1 t2 t3 : Str} (hd : [t0, t1, t2, t3].Nodup) : NOk [t0, t1, t2, t3] hand27 := by
  refine ⟨rfl, hd, ?_⟩
  have key : (hand27.all fun x => x.rounds.all fun r => r.all fun c => decide (c.2 < 4)) = true := by decide +kernel
  intro x hx r hr c hc _
  have h1 := List.all_eq_true.mp key x hx
  have h2 := List.all_eq_true.mp h1 r hr
  exact of_decide_eq_true (List.all_eq_true.mp h2 c hc)
theorem clr_inb {t0 t1 t2 : Str} (hd : [t0, t1, t2].Nodup) : NOk [t0, t1, t2] clrN := by
  refine ⟨rfl, hd, ?_⟩
  have key : (clrN.all fun x => x.rounds.all fun r => r.all fun c => decide (c.2 < 3)) = true := by decide +kernel
  intro x hx r hr c hc _
  have h1 := List.all_eq_true.mp key x hx
  have h2 := List.all_eq_true.mp h1 r hr
  exact of_decide_eq_true (List.all_eq_true.mp h2 c hc)
theorem word_is {c : Nat} {h : List Str} (o : Has (gS c) h) {n : Nat} (hl : (lens h).getD 11 0 = n) (hn : 1 ≤ n) : h[11]? = some (mulS c n) := by
  rw [List.getD_eq_getElem?_getD, List.getElem?_map] at hl
  cases e : h[11]? with
  | none =>
    rw [e] at hl
    have : (0 : Nat) = n := hl
    omega
  | some s =>
    rw [e] at hl
    have hsl : s.length = n := hl
    rw [← hsl]
    exact congrArg some (one_letter (gS_has.mp o s (List.mem_iff_getElem?.mpr ⟨11, e⟩)))
theorem hand27_yes {t0 t1 t2 t3 : Str} (hd : [t0, t1, t2, t3].Nodup) {c : Nat} {ws : List Str} (hw : lens ws = ns11 ++ [2]) (o : Has (gS c) ws) : ∃ h, lastT (hand27T t0 t1 t2 t3) (top27T t0 t1) ws 4 ws 0 = some h ∧ h[11]? = some (mulS c 1000) := by
  have k := hand27_num.1
  have e := last_len (t := t0) (hand27_inb hd) (x := top27) List.mem_cons_self ws 4 ws 0
  rw [hand27_eq, top27_eq, hw] at e
  rw [e] at k
  cases q : lastT (hand27T t0 t1 t2 t3) (top27T t0 t1) ws 4 ws 0 with
  | none => rw [q] at k; cases k
  | some h =>
    rw [q] at k
    exact ⟨h, rfl, word_is (only_last o 4 ws 0 o q) (Option.some.inj k) (by decide)⟩
theorem hand27_no {t0 t1 t2 t3 : Str} (hd : [t0, t1, t2, t3].Nodup) {c : Nat} {ws : List Str} (hw : lens ws = ns11 ++ [3]) (o : Has (gS c) ws) : ∃ h1 h2 h3, afterT (hand27T t0 t1 t2 t3) (top27T t0 t1) ws ws 0 = some h1 ∧ afterT (hand27T t0 t1 t2 t3) (top27T t0 t1) ws h1 1 = some h2 ∧ afterT (hand27T t0 t1 t2 t3) (top27T t0 t1) ws h2 2 = some h3 ∧ afterT (hand27T t0 t1 t2 t3) (top27T t0 t1) ws h3 3 = none ∧ h3[11]? = some (mulS c 29) ∧ lastT (hand27T t0 t1 t2 t3) (top27T t0 t1) ws 4 ws 0 = none := by
  obtain ⟨_, k1, k2⟩ := hand27_num
  have e := fun n => last_len (t := t0) (hand27_inb hd) (x := top27) List.mem_cons_self ws n ws 0
  rw [hand27_eq, top27_eq, hw] at e
  rw [e 3] at k1
  rw [e 4, Option.map_eq_none_iff] at k2
  obtain ⟨h3, q, k1⟩ := Option.map_eq_some_iff.mp k1
  obtain ⟨h3', q', rfl⟩ := Option.map_eq_some_iff.mp q
  have hwd := word_is (only_last o 3 ws 0 o q') k1 (by decide)
  rcases last_split q' with ⟨_, z⟩ | ⟨h1, q1, r1⟩
  · cases z
  rcases last_split r1 with ⟨_, z⟩ | ⟨h2, q2, r2⟩
  · cases z
  rcases last_split r2 with ⟨_, z⟩ | ⟨h, q3, r3⟩
  · cases z
  obtain rfl : h = h3' := Option.some.inj r3
  refine ⟨h1, h2, h, q1, q2, q3, ?_, hwd, k2⟩
  rcases last_split k2 with ⟨z, _⟩ | ⟨g1, p1, s1⟩
  · rw [q1] at z
    cases z
  rw [q1] at p1
  obtain rfl := Option.some.inj p1
  rcases last_split s1 with ⟨z, _⟩ | ⟨g2, p2, s2⟩
  · rw [q2] at z
    cases z
  rw [q2] at p2
  obtain rfl := Option.some.inj p2
  rcases last_split s2 with ⟨z, _⟩ | ⟨g3, p3, s3⟩
  · rw [q3] at z
    cases z
  rw [q3] at p3
  obtain rfl := Option.some.inj p3
  rcases last_split s3 with ⟨z, _⟩ | ⟨g4, _, s4⟩
  · exact z
  · cases s4
theorem clr_led {t0 t1 t2 : Str} (hd : [t0, t1, t2].Nodup) {ws : List Str} (hw : lens ws = List.replicate 12 2) : afterT (clrT t0 t1 t2) (topCT t0 t1) ws ws 0 = none := by
  have k := clr_num
  have e := after_len (t := t0) (clr_inb hd) (x := topC) List.mem_cons_self ws ws 0
  rw [clr_eq, topC_eq, hw] at e
  rw [e] at k
  cases q : afterT (clrT t0 t1 t2) (topCT t0 t1) ws ws 0 with
  | none => rfl
  | some h => rw [q] at k; cases k
end GT
namespace J
open PySem PySem.Spec
open PyProof.Rows L2
section
variable {w : World} {P : Program} {K : PySem.W.Frag} {base : Heap} {mg : Str → Option Value} {C R : Addr}
theorem scRW : FnScope ["self"] ["self"] (defScope sRowWords) := ⟨rfl, rfl, rfl, by decide +kernel, rfl, by decide +kernel, by decide +kernel⟩
theorem okRW {f : Addr} {fd : FuncData} (F : Fun K "words" "Row.words" sRowWords f fd) (B : KlR K R) : FnOk P w K mg base CX0 1 f fd ["self"] (SpV K ["self"] (cnFld R "held")) := by
  refine fn_mk F scRW (by decide) (fun rs μ r μ' h => by obtain ⟨_, _, rfl, _, _, rfl⟩ := h; exact ⟨rfl, rfl⟩) fun cdv A outer s H E hr rs μ r μ' hC => ?_
  obtain ⟨fs, d, rfl, hl, rfl, rfl⟩ := hC
  exact ST.retP (EV.fld (nm 0) B.cl B.a4 hl) rfl
end
end J
namespace J
open PySem PySem.Spec
open PyProof.Rows L2
section
variable {w : World} {P : Program} {K : PySem.W.Frag} {base : Heap} {mg : Str → Option Value} {C R : Addr}
theorem scRD : FnScope ["self"] ["self"] (defScope sRowDone) := ⟨rfl, rfl, rfl, by decide +kernel, rfl, by decide +kernel, by decide +kernel⟩
theorem okRD {f : Addr} {fd : FuncData} (F : Fun K "done" "Row.done" sRowDone f fd) (B : KlR K R) : FnOk P w K mg base CX0 1 f fd ["self"] (SpV K ["self"] (cnFld R "behind")) := by
  refine fn_mk F scRD (by decide) (fun rs μ r μ' h => by obtain ⟨_, _, rfl, _, _, rfl⟩ := h; exact ⟨rfl, rfl⟩) fun cdv A outer s H E hr rs μ r μ' hC => ?_
  obtain ⟨fs, d, rfl, hl, rfl, rfl⟩ := hC
  exact ST.retP (EV.fld (nm 0) B.cl B.a5 hl) rfl
end
end J
namespace J
open PySem PySem.Spec
open PyProof.Rows L2
noncomputable abbrev Ini := Except (Addr × List (Str × PyData)) (List (Str × PyData))
noncomputable def mkResF (C : Addr) (μ : Sto) : Ini → Res
  | .ok fs => .ok (.obj C fs) μ
  | .error cf => .rse cf.1 cf.2 μ
end J
namespace J
open PySem PySem.Spec
open PyProof.Rows L2
noncomputable def errOf : Ini → Option (Addr × List (Str × PyData))
  | .ok _ => none
  | .error cf => some cf
section
variable {X : Cx} {W : WX} {ρ : REnv} {μ μ1 μ2 : Sto} {o : Expr} {f : Str} {C : Addr} {k : Nat} {cn : Con} {r : Ent} {pos : Pos} {oo : Ini}
theorem EVR.propF (ho : EVR X W o ρ μ (mkResF C μ1 oo)) (cl : Cls X.K C) (hp : Prp X.prog X.w X.K X.mg X.base C f k cn) (hr : Room (k + 1) X.A) (hC : ∀ fs, oo = .ok fs → cn [.obj C fs] μ1 r μ2) (hb : attributeBase o f X.env (eval o X.env) = eval o X.env := by rfl) : EVR X W (.Attribute o f pos) ρ μ (mkThen r μ1 μ2 (errOf oo)) := by
  intro w σ H m s Q q
  obtain ⟨p0, gf, fd, F, po, bi⟩ := hp.ex
  refine ⟨_, pe_prop (E := E0) (p_ex (e := o)) cl po F hr bi .nil pass0 hb, ?_⟩
  refine ho w σ H m s _ ?_
  cases oo with
  | error cf => exact q
  | ok fs =>
    intro v H1 m1 f1 h1
    have h1' := h1
    obtain ⟨x, dx, ws, rfl, hx, hn, hd⟩ := h1
    exact ⟨x, dx, ws, rfl, (dl_some hx).2, w, μ1, _, r, μ2, m1, .cons h1' .nil, rfl, hC fs rfl, fun v H' m2 f2 h2 => q v H' m2 (f1.trans f2) h2⟩
end
end J
namespace J
open PySem PySem.Spec
open PyProof.Rows L2
structure CauR (P : Program) (w : World) (K : PySem.W.Frag) (mg : Str → Option Value) (base : Heap) (c1 c2 c3 : Addr) : Prop where
  df : Df K mg "_law_caught" sLCaught
  rep : mg "repr" = none
  tel : Tel P w K mg base
  m1 : mg "NotRight" = some (.ref c1)
  m2 : mg "NotThere" = some (.ref c2)
  m3 : mg "CannotBe" = some (.ref c3)
section
variable {c1 c2 c3 : Addr}
theorem EV.caughtPropF {X : Cx} {ρ : REnv} {μ : Sto} {call : Expr} {m x : Str} {cdv : Value} {k kp : Nat} {R : Addr} {cn : Con} {d : PyData} {xs : List PyData} {oo : Ini} {params : Arguments} {scope : Scope} {p lpos pos p4 : Pos} (Y : CauR X.prog X.w X.K X.mg X.base c1 c2 c3) (cl : Cls X.K R) (Bp : Prp X.prog X.w X.K X.mg X.base R m kp cn) (L : LamD X.K X.mg X.base x cdv) (hq : X.env.qual = x ++ ".<locals>.") (hcode : X.env.code = cdv) (hgd : X.A.guards = some []) (hr : Room (k + 2) X.A) (hk : 2 ≤ k) (hkp : kp + 1 ≤ k)
    (hC : Caught X.K X.mg X.base [.ref c1, .ref c2, .ref c3] μ (mkThen (.dat d) μ μ (errOf oo)) xs) (hcn : ∀ fs, oo = .ok fs → cn [.obj R fs] μ (.dat d) μ)
    (hb : ∀ (A : Around) (outer : List Env) (s : Shared) (H : Hp) (E : XK) (f c' : Addr), Room k (A.deeper (LamX.lamEnv X scope s.heap.objs.size f c')) → EVR (LamX.lamCx X A outer s H E scope f c') (fun cls d _ H => E cls d H) call ρ μ (mkResF R μ oo))
    (hg : Gl X "_law_caught" := by rfl) (hL : LamX.lamSB X.env.scope scope = true := by decide +kernel) (hdef : defaultsOf params X.env = ([], []) := by rfl) (hbind : ∀ (q : Str) (cl : List (Str × Addr)) (pm cv ctv : Value), bindArgs (PySem.W.kla_fn "<lambda>" q params (.Attribute call m p4) scope cl pm cv ctv) ⟨[], []⟩ = pure [] := by exact fun _ _ _ _ _ => rfl) (hab : ∀ E : Env, attributeBase call m E (eval call E) = eval call E := by exact fun _ => rfl) :
    EV X (.Call (.Name "_law_caught" p) [.Lambda params (.Attribute call m p4) scope lpos] [] pos) ρ μ (Ls xs) μ := by
  refine EV.caught (o := mkThen (.dat d) μ μ (errOf oo)) L hq hcode Y.df Y.rep Y.tel Y.m1 Y.m2 Y.m3 hgd hr hk hC (fun A outer s H Ex f c' hr2 => ?_) hg hL hdef hbind
  exact EVR.propF (X := LamX.lamCx X A outer s H Ex scope f c') (hb A outer s H Ex f c' hr2) cl Bp (hr2.mono hkp) hcn (hab _)
end
end J
namespace N
open PySem J L2 M
noncomputable def ends (r d : Int) : Str := strI r ++ " of " ++ strI d
end N
namespace M
open PySem J L2
end M
namespace J
open PySem PySem.Spec
open PyProof.Rows L2
end J
namespace J
open PySem PySem.Spec
open PyProof.Rows L2
structure Cau (P : Program) (w : World) (K : PySem.W.Frag) (mg : Str → Option Value) (base : Heap) (c1 c2 c3 : Addr) : Prop where
  df : Df K mg "_law_caught" sLCaught
  rep : mg "repr" = none
  tel : Tel P w K mg base
  m1 : mg "NotRight" = some (.ref c1)
  m2 : mg "NotThere" = some (.ref c2)
  m3 : mg "CannotBe" = some (.ref c3)
end J
namespace J
open PySem PySem.Spec
open PyProof.Rows L2
theorem execs_app (b : List Stmt) (env : Env) : ∀ a : List Stmt, execs (a ++ b) env = (execs a env >>= fun f => match f with
    | .next => execs b env
    | f => pure f)
  | [] => by
    have : execs [] env = pure .next := by simp only [execs]
    rw [List.nil_append, this]
    rfl
  | s :: a => by
    rw [List.cons_append, execs_cons, execs_cons, execs_app b env a]
    rw [bind_assoc]
    refine congrArg (fun k => exec s env >>= k) (funext fun f => ?_)
    cases f <;> first | rfl | (rw [pure_bind])
section
variable {X : Cx} {W : WX} {n : Nat} {ρ : REnv} {μ : Sto} {P : Out → Prop} {S1 rest : List Stmt} {t u : TS}
theorem pss_app (h1 : PSs X S1 t) (h2 : PSs X rest u) : PSs X (S1 ++ rest) (fun D σ H => t { D with nx := u D } σ H) := by
  refine ⟨fun pins s σ H D I h => ?_⟩
  rw [execs_app]
  refine wpAny_bind (thn (h1.run pins s σ H { D with nx := u D } I h) fun f s1 q => ?_)
  cases f with
  | next =>
    obtain ⟨σ', H', I', q⟩ := q
    exact h2.run pins s1 σ' H' D I' q
  | ret v => exact wpAny_pure q
  | brk => exact wpAny_pure q
  | cont => exact wpAny_pure q
theorem ST.seqF (P1 : REnv → Sto → Prop) (hn : n ≤ μ.length) (h1 : ST X W n S1 ρ μ fun
    | .nx ρ1 ν => P1 ρ1 ν
    | o => P o) (h2 : ∀ ρ1 ν, P1 ρ1 ν → ST X W n rest (frzE μ.length ν ρ1) (ν.take μ.length) P) : ST X W n (S1 ++ rest) ρ μ P := by
  intro w σ H D hw m s q
  refine ⟨_, pss_app (p_sx (e := S1)) (p_sx (e := rest)), ?_⟩
  have hlen : w.α.length = μ.length := m.len
  refine h1 w σ H { D with nx := fun σ H => SX X rest D σ H } hw m s fun o ho => ?_
  cases o with
  | nx ρ1 ν =>
    intro β σ1 H1 m1 s1 f1 hb
    have e : (w.add β).cut μ.length = w := by
      show (⟨(w.α ++ β).take μ.length, w.ξ⟩ : Wd) = w
      rw [← hlen, List.take_left]
    have m2 := m1.cut μ.length
    have s2 := sl_frz m1 s1 μ.length
    rw [e] at m2 s2
    exact h2 ρ1 ν ho w σ1 H1 D hw m2 s2 fun o ho => (q o ho).step hw f1
  | ret r ν => exact q (.ret r ν) ho
  | brk ρ1 ν => exact q (.brk ρ1 ν) ho
  | ct ρ1 ν => exact q (.ct ρ1 ν) ho
  | rse ρ1 ν C fs => exact q (.rse ρ1 ν C fs) ho
end
end J
namespace J
open PySem PySem.Spec
open PyProof.Rows L2
end J
namespace J
open PySem PySem.Spec
open PyProof.Rows L2
end J
namespace J
open PySem PySem.Spec
open PyProof.Rows L2
end J
namespace J
open PySem PySem.Spec
open PyProof.Rows L2
end J
namespace M
open PySem J L2
end M
namespace J
open PySem PySem.Spec
open PyProof.Rows L2
end J
namespace J
open PySem PySem.Spec
open PyProof.Rows L2
end J
namespace J
open PySem PySem.Spec
open PyProof.Rows L2
end J
namespace J
open PySem PySem.Spec
open PyProof.Rows L2
theorem eqS_self (s : Str) : (!eqS (.str s) (.str s)) = false := by
  show (!(s == s)) = false
  rw [beq_self_eq_true]
  rfl
end J
namespace GT
open PySem J L2
noncomputable def mulC (n : Nat) : Bool := !(decide ((n : Int) < -(2 ^ 63 : Int)) || decide ((n : Int) ≥ 2 ^ 63)) && (!decide ((1 : Int) > (2 ^ 63 - 1) / (n : Int)) && !PySem.Builtin.Str.tooLong (1 * (n : Int).toNat))
theorem mulOk_one {n : Nat} (h : mulC n = true) (c : Nat) : MulOk ⟨#[c]⟩ (n : Int) := by
  unfold mulC at h
  rw [Bool.and_eq_true, Bool.and_eq_true] at h
  obtain ⟨a, b, d⟩ := h
  have d' : PySem.Builtin.Str.tooLong (1 * (n : Int).toNat) = false := by simpa using d
  refine ⟨by simpa using a, fun _ _ z => ?_, fun _ _ => d'⟩
  have z' : decide ((1 : Int) > (2 ^ 63 - 1) / (n : Int)) = true := decide_eq_true z
  rw [z'] at b
  cases b
theorem mulC_all : ∀ n ∈ [1, 2, 3, 4, 29, 1000], mulC n = true := by decide +kernel
theorem letters_are : M.letters = ("abcdefghijklmnopqrstuvwxyz" : Str) := by decide +kernel
theorem mul_piece {c : Nat} (hc : c ∈ M.letters.cps.toList) {n : Nat} (h1 : 1 ≤ n) (h4 : n ≤ 4) : GR.Piece (mulS c n) := by
  refine ⟨by rw [mulS_len]; exact ⟨h1, h4⟩, fun a ha => ?_⟩
  have : a ∈ List.replicate n c := ha
  rw [List.eq_of_mem_replicate this]
  exact hc
noncomputable def ws27 (c n : Nat) : List Str := (ns11 ++ [n]).map (mulS c)
theorem ws27_lens (c n : Nat) : lens (ws27 c n) = ns11 ++ [n] := by
  unfold ws27 lens
  rw [List.map_map]
  conv => rhs; rw [← List.map_id (ns11 ++ [n])]
  exact List.map_congr_left fun i _ => mulS_len c i
theorem ws27_len (c n : Nat) : (ws27 c n).length = 12 := by
  unfold ws27
  rw [List.length_map]
  rfl
theorem ws27_pc {c : Nat} (hc : c ∈ M.letters.cps.toList) {n : Nat} (h1 : 1 ≤ n) (h4 : n ≤ 4) : ∀ s ∈ ws27 c n, GR.Piece s := fun s hs => by
  obtain ⟨m, hm, rfl⟩ := List.mem_map.mp hs
  rcases List.mem_append.mp hm with h | h
  · have : ∀ m ∈ ns11, 1 ≤ m ∧ m ≤ 4 := by decide
    exact mul_piece hc (this m h).1 (this m h).2
  · obtain rfl := List.mem_singleton.mp h
    exact mul_piece hc h1 h4
theorem ws27_only (c n : Nat) : Has (gS c) (ws27 c n) := gS_has.mpr fun s hs a ha => by
  obtain ⟨m, _, rfl⟩ := List.mem_map.mp hs
  exact List.eq_of_mem_replicate (show a ∈ List.replicate m c from ha)
end GT
namespace J
open PySem PySem.Spec
open PyProof.Rows L2
theorem takes0 {X : Cx} : L2N.Takes X W0 := fun u s' h => by
  obtain ⟨a, B, sI, pins, σ, H, cls, d, e, I, nb, up, sky, na, os, ag, w⟩ := h
  exact w.elim
theorem sho_1000 : Sho (.int 1000) := by
  have hl : (1000 : Int).natAbs.log2 < 1920 := by decide +kernel
  exact ⟨rfl, by simp only [PyData.showable]; exact decide_eq_true hl, by simp [PyData.depth], by decide +kernel, fun j z => by cases z; exact hl⟩
noncomputable def tooL : List PyData := [.str "TooLong", .str "1000"]
theorem told_too : errTold 8 (.int 1000) = tooL := by
  have : (PyData.int 1000).shown = ("1000" : Str) := by decide +kernel
  show [PyData.str (errName 8), .str (PyData.int 1000).shown] = _
  rw [this]
  rfl
theorem tooL_ok : SeqAt.shaped (.list tooL) = true ∧ PyData.eqv (.list tooL) (.list tooL) = true := by decide +kernel
theorem shown_4T : (PyData.list [.int 4, .bool true]).shown = ("[4, True]" : Str) := by decide +kernel
section
variable {w : World} {P : Program} {K : PySem.W.Frag} {base : Heap} {mg : Str → Option Value} {C R Ct Co c1 c2 c3 : Addr}
structure Bk27 (P : Program) (w : World) (K : PySem.W.Frag) (mg : Str → Option Value) (base : Heap) (C R Ct Co : Addr) : Prop where
  kl : Kl K C
  mak : Mak P w K mg base "Book" C "kept" 8 ["self", "plans"] M.Good
  row : MakF P w K mg base "Row" R 6 ["self", "book", "name", "pieces"] (conRow C)
  klR : KlR K R
  words : Prp P w K mg base R "words" 1 (cnFld R "held")
  done : Prp P w K mg base R "done" 1 (cnFld R "behind")
  over : Prp P w K mg base R "is_over" 1 (cnOver R)
  after : MthX P w K mg base R "after" (2 * GT.fuel + 6) ["self"] (cnAf C R Ct Co)
  last : MthX P w K mg base R "last" (2 * GT.fuel + 7) ["self"] (cnLa C R Ct)
theorem scC27 : FnScope ["_law_tag_here"] ["_law_tag_here"] (defScope sLCall) := ⟨rfl, rfl, rfl, by decide +kernel, rfl, by decide +kernel, by decide +kernel⟩
noncomputable def cnC27 : Con := fun rs μ r μ' => ∃ (t : Str), rs = [Ss t] ∧ r = Ls ((G.call1 t).map G.Part.d) ∧ μ' = μ
theorem cC27 (T : Bt mg) (D : Df K mg "_law_call" sLCall) : Cal P w K mg base "_law_call" 1 ["_law_tag_here"] cnC27 := by
  refine D.cal scC27 (fun _ _ _ _ _ _ us hl => len1 us hl fun _ => rfl) (by decide) (fun rs μ r μ' h => by obtain ⟨_, _, _, rfl⟩ := h; rfl) fun f cdv A outer s H E hr rs μ r μ' hC => ?_
  obtain ⟨t, rfl, rfl, rfl⟩ := hC
  exact ST.retP (r' := Ls ((G.call1 t).map G.Part.d)) (ν := μ') (EVF.lst (ds := (G.call1 t).map G.Part.d) (AV.cons (EV.tup (ds := [.str "call", .int 0, .int 1, .str Str.empty, .int 0, .str t]) (AV.cons EV.str (AV.cons EV.int (AV.cons EV.int (AV.cons EV.str (AV.cons EV.int (AV.cons (nm 0) AV.nil))))))) AV.nil)).ev rfl (by rw [List.take_length])
noncomputable def cnRt : ConP := fun rs μ Φ => ∃ (k : Nat) (p : G.Pu), rs = [.ptr k] ∧ (μ[k]? = some p.ds ∧ p.ok) ∧ Φ = fun r μ' => r = Bb true ∧ ∃ q : G.Pu, μ' = μ.set k q.ds
noncomputable abbrev nCl27 : List Str := ["_law_purse_here", "_law_tags_here", "_law_mates", "_law_made"]
theorem scCl27 : FnScope nCl27 ["_law_purse_here"] (defScope sLCleared) := ⟨rfl, rfl, rfl, by decide +kernel, rfl, by decide +kernel, by decide +kernel⟩
theorem cCl27 (T : Bt mg) (C1 : Cal P w K mg base "_law_tags" 4 ["_law_purse_here", "_law_many"] cnTags) (C2 : Cal P w K mg base "_law_call" 1 ["_law_tag_here"] cnC27) (C3 : Cal P w K mg base "_law_told" 3 ["_law_mates"] cnTold)
    (Y : CauR P w K mg base c1 c2 c3) (B : Bk27 P w K mg base C R Ct Co) (E : ErrC K mg Ct 8 "most") (hm : PySem.W.exmAny K (.ref Ct) [.ref c1, .ref c2, .ref c3] = some true)
    (inB : K.In base) (nsB : base.Ns mainGlobals mg) (L : LamB K mg base "_law_cleared") (D : Df K mg "_law_cleared" sLCleared) : CalGP P w K mg base "_law_cleared" 114 ["_law_purse_here"] cnRt := by
  refine D.calGPL inB nsB L scCl27 (fun _ _ _ _ _ _ us hl => len1 us hl fun _ => rfl) (by decide) fun f cdv A outer s0 H Ex hL hgd hr rs μ Φ hC => ?_
  obtain ⟨k, p, rfl, ⟨hk, hp⟩, rfl⟩ := hC
  have hu : (cxOf CX0 P w K mg base nCl27 "_law_cleared" (defScope sLCleared) f cdv A outer s0 H Ex).nox.A.units + 64 < PySem.cLine := Nat.lt_of_le_of_lt (Nat.add_le_add_left (show 64 ≤ 16 * 113 + 200 by decide) _) hr.un
  have hkl := (List.getElem?_eq_some_iff.mp hk).1
  have slen : ∀ {c : List PyData}, (μ.set k c).length = μ.length := fun {c} => List.length_set ..
  have cell : ∀ {c xs : List PyData} {rest : Sto}, (μ.set k c ++ (xs :: rest))[μ.length]? = some xs := fun {c xs rest} => by
    rw [List.getElem?_append_right (by rw [List.length_set]; exact Nat.le_refl _), List.length_set, Nat.sub_self]
    rfl
  have sets : ∀ {c xs ys : List PyData} {rest : Sto}, (μ.set k c ++ (xs :: rest)).set μ.length ys = μ.set k c ++ (ys :: rest) := fun {c xs ys rest} => by
    rw [List.set_append_right _ _ (by rw [List.length_set]; exact Nat.le_refl _), List.length_set, Nat.sub_self]
    rfl
  have tks : ∀ {c : List PyData} (rest : Sto), (μ.set k c ++ rest).take μ.length = μ.set k c := fun {c} rest => by
    rw [List.take_append_of_le_length (by rw [List.length_set]; exact Nat.le_refl _), List.take_of_length_le (by rw [List.length_set]; exact Nat.le_refl _)]
  have hlen := tags_len p 3
  have hok := tags_ok hp 3
  have hnm := tags_names hp 3 (by decide)
  have hnd := tags_nd (p := p) 3 (by decide)
  refine ST.set (i := 1) (r := Ls ((G.tags p 3).1.map .str)) (μ1 := μ.set k (G.tags p 3).2.ds) (EV.call C1 (hr.mono (by decide)) (AV.cons (nm 0) (AV.cons EV.int AV.nil)) ⟨k, 3, p, rfl, ⟨hk, hp, by decide⟩, rfl, rfl⟩) scCl27.nd rfl (by first | exact Or.inl rfl | exact Or.inr rfl) ?_
  generalize (G.tags p 3).2 = u at *
  generalize (G.tags p 3).1 = tg at *
  obtain ⟨t0, t1, t2, rfl⟩ : ∃ t0 t1 t2, tg = [t0, t1, t2] := match tg, hlen with | [a, b, c], _ => ⟨a, b, c, rfl⟩
  have at0 : ([PyData.str t0, .str t1, .str t2])[0]? = some (.str t0) := rfl
  have at1 : ([PyData.str t0, .str t1, .str t2])[1]? = some (.str t1) := rfl
  have at2 : ([PyData.str t0, .str t1, .str t2])[2]? = some (.str t2) := rfl
  have hgoal : ∀ {X : Cx} {ρ : REnv} {ν : Sto} {kk pp p1 p2 k1 k2}, EV X (.Tuple [.Constant (.str "all") k1 p1, .Constant (.int 0) k2 p2] kk pp) ρ ν (.dat (goalP ("all", 0))) ν := EV.tup (ds := [.str "all", .int 0]) (AV.cons EV.str (AV.cons EV.int AV.nil))
  obtain ⟨hmg, hgg⟩ := GT.clr_good hnm hnd
  have hled := fun ws h => GT.clr_led hnd (ws := ws) h
  obtain ⟨ms, hms⟩ : ∃ ms, ms = GT.clrT t0 t1 t2 := ⟨_, rfl⟩
  rw [← hms] at hmg hgg hled
  have hmo := N.mates_ok hmg
  have hG := N.told_good hmg
  obtain ⟨O, Dj⟩ := GT.good_ok hmg hgg hG fun y hy r hr' => by
    obtain ⟨i, hi⟩ := List.mem_iff_getElem?.mp hy
    have h1 := (hmo.2 y hy).r r hr'
    exact ⟨N.round_read ((hmg.each i y hi).rounds r hr'), Nat.le_trans (line_len h1.1 h1.2) (by decide)⟩
  obtain ⟨x, hx⟩ : ∃ x, x = GT.topCT t0 t1 := ⟨_, rfl⟩
  have hix : ms[0]? = some x := by rw [hms, hx]; rfl
  have hxm : x ∈ ms := List.mem_iff_getElem?.mpr ⟨0, hix⟩
  have hxt : x.tag = t0 := by rw [hx]; rfl
  refine ST.envK (ρ' := [some (.ptr k), some (Ls [.str t0, .str t1, .str t2]), none, none]) rfl ?_
  refine ST.seqF (S1 := [_, _, _]) (fun ρ1 ν => ρ1 = [some (.ptr k), some (Ls [.str t0, .str t1, .str t2]), some (.ptr μ.length), none] ∧ ν = μ.set k u.ds ++ [ms.map G.Mate.d]) (by rw [slen]; exact Nat.le_refl _) ?_ (fun ρ1 ν hP => ?_)
  · refine ST.cell (i := 2) (EVF.lst (ds := [.tuple [.str t0, goalP ("all", 0), .int 1, .list [.list ((G.call1 t1).map G.Part.d)]]]) (AV.cons (EV.tup (ds := [.str t0, goalP ("all", 0), .int 1, .list [.list ((G.call1 t1).map G.Part.d)]]) (AV.cons (ixL (nm 1) EV.int (at_nat at0)) (AV.cons hgoal (AV.cons EV.int (AV.cons (EVF.ev (EVF.lst (ds := [.list ((G.call1 t1).map G.Part.d)]) (AV.cons (EV.call C2 (hr.mono (by decide)) (AV.cons (ixL (nm 1) EV.int (at_nat at1)) AV.nil) ⟨t1, rfl, rfl, rfl⟩) AV.nil))) AV.nil))))) AV.nil)) scCl27.nd rfl (by first | exact Or.inl rfl | exact Or.inr rfl) ?_
    rw [slen]
    refine ST.envK (ρ' := [some (.ptr k), some (Ls [.str t0, .str t1, .str t2]), some (.ptr μ.length), none]) rfl ?_
    refine ST.expr (EV.app (d := .tuple [.str t1, goalP ("all", 0), .int 1, .list ([.list ((G.call1 t2).map G.Part.d), .list ((G.call1 t2).map G.Part.d)] ++ [.list [G.cl0.d]])]) (nm 2) (EV.tup (ds := [.str t1, goalP ("all", 0), .int 1, .list ([.list ((G.call1 t2).map G.Part.d), .list ((G.call1 t2).map G.Part.d)] ++ [.list [G.cl0.d]])]) (AV.cons (ixL (nm 1) EV.int (at_nat at1)) (AV.cons hgoal (AV.cons EV.int (AV.cons (oCat (EV.eq (oRep (m := 2) (EVF.ev (EVF.lst (ds := [.list ((G.call1 t2).map G.Part.d)]) (AV.cons (EV.call C2 (hr.mono (by decide)) (AV.cons (ixL (nm 1) EV.int (at_nat at2)) AV.nil) ⟨t2, rfl, rfl, rfl⟩) AV.nil))) EV.int (by decide) (by show 1 ≤ 1000; decide)) rfl) (EVF.ev (EVF.lst (ds := [.list [G.cl0.d]]) (AV.cons (EVF.ev (EVF.lst (ds := [G.cl0.d]) (AV.cons (EV.tup (ds := [.str "clear", .int 0, .int 1, .str Str.empty, .int 0, .str Str.empty]) (AV.cons EV.str (AV.cons EV.int (AV.cons EV.int (AV.cons EV.str (AV.cons EV.int (AV.cons EV.str AV.nil))))))) AV.nil))) AV.nil))) (by show 2 + 1 ≤ sizeLine; decide)) AV.nil))))) cell (by show 1 ≤ 1000; decide)) ?_
    rw [sets]
    refine ST.expr (EV.app (d := .tuple [.str t2, goalP ("all", 0), .int 1, .list (List.replicate 5 (.list [(G.jn1 1).d]))]) (nm 2) (EV.tup (ds := [.str t2, goalP ("all", 0), .int 1, .list (List.replicate 5 (.list [(G.jn1 1).d]))]) (AV.cons (ixL (nm 1) EV.int (at_nat at2)) (AV.cons hgoal (AV.cons EV.int (AV.cons (EV.eq (oRep (m := 5) (EVF.ev (EVF.lst (ds := [.list [(G.jn1 1).d]]) (AV.cons (EVF.ev (EVF.lst (ds := [(G.jn1 1).d]) (AV.cons (EV.tup (ds := [.str "join", .int 0, .int 1, .str "left", .int 1, .str Str.empty]) (AV.cons EV.str (AV.cons EV.int (AV.cons EV.int (AV.cons EV.str (AV.cons EV.int (AV.cons EV.str AV.nil))))))) AV.nil))) AV.nil))) EV.int (by decide) (by show 1 ≤ 1000; decide)) rfl) AV.nil))))) cell (by show 2 ≤ 1000; decide)) ?_
    rw [sets]
    refine ST.nil ⟨rfl, ?_⟩
    refine congrArg (fun z => μ.set k u.ds ++ [z]) ?_
    rw [hms]
    rfl
  · obtain ⟨rfl, rfl⟩ := hP
    rw [slen, tks]
    have hfr : frzE μ.length (μ.set k u.ds ++ [ms.map G.Mate.d]) [some (.ptr k), some (Ls [.str t0, .str t1, .str t2]), some (.ptr μ.length), none] = [some (.ptr k), some (Ls [.str t0, .str t1, .str t2]), some (Ls (ms.map G.Mate.d)), none] := by
      show [some (frz μ.length (μ.set k u.ds ++ [ms.map G.Mate.d]) (.ptr k)), _, some (frz μ.length (μ.set k u.ds ++ [ms.map G.Mate.d]) (.ptr μ.length)), _] = _
      rw [frz_lt hkl, frz_at (Nat.le_refl _) cell]
      rfl
    rw [hfr]
    obtain ⟨ws, hws⟩ : ∃ ws : List Str, ws = List.replicate 12 ("ab" : Str) := ⟨_, rfl⟩
    have hwl : ws.length = 12 := by rw [hws]; rfl
    have hwn : GT.lens ws = List.replicate 12 2 := by rw [hws]; decide +kernel
    have hwp : ∀ s ∈ ws, GR.Piece s := fun s hs => by
      rw [hws] at hs
      rw [List.eq_of_mem_replicate hs]
      exact ⟨by decide +kernel, by decide +kernel⟩
    have hsh : GT.Sh 1000 ws := fun s hs => Nat.le_trans (hwp s hs).len.2 (by decide)
    have hok0 : GT.RowOk ms 0 x ws ws 0 := ⟨O, hix, by rw [hwl]; decide, by rw [hwl]; exact Nat.le_refl _, hwp, rfl, hsh, Nat.zero_le _⟩
    have hrow : ∀ {μ : Sto}, conRow C [bookE C (ms.map G.told), Ss t0, Tp (ws.map .str)] μ (GT.rowT C ms x ws ws 0) := fun {μ} => by
      rw [← hxt]
      refine ⟨ms.map G.told, x.tag, 0, x.goal, x.base, x.rounds.map fun r => .str (G.line r), ws, rfl, ⟨O.good, by rw [List.getElem?_map, List.getElem?_map, hix]; rfl, by rw [List.getElem?_map, hix]; rfl, O.gg x hxm⟩, ⟨by rw [hwl]; decide, by rw [hwl]; exact Nat.le_refl _, hwp⟩, ?_⟩
      unfold GT.rowT GT.wholeT
      rw [List.length_map]
      congr 1
      split <;> rfl
    have hwd : (List.replicate 12 [PyData.str "ab"]).flatten = ws.map PyData.str := by rw [hws]; rfl
    refine ST.set (i := 3) (r := .obj R (GT.rowT C ms x ws ws 0)) (μ1 := μ.set k u.ds) (EV.makeF B.row (hr.mono (by decide)) (AV.cons (EV.make B.mak (hr.mono (by decide)) (EV.call C3 (hr.mono (by decide)) (AV.cons (nm 2) AV.nil) ⟨ms, rfl, hmo, rfl, rfl⟩) hG) (AV.cons (ixL (nm 1) EV.int (at_nat at0)) (AV.cons (bTupL T (EV.eq (oRep (m := 12) (EVF.ev (EVF.lst (ds := [.str "ab"]) (AV.cons EV.str AV.nil))) EV.int (by decide) (by show 1 ≤ 1000; decide)) (congrArg Ls hwd))) AV.nil))) hrow) scCl27.nd rfl (by first | exact Or.inl rfl | exact Or.inr rfl) ?_
    refine ST.envK (ρ' := [some (.ptr k), some (Ls [.str t0, .str t1, .str t2]), some (Ls (ms.map G.Mate.d)), some (.obj R (GT.rowT C ms x ws ws 0))]) rfl ?_
    have hnone := hled ws hwn
    rw [← hx] at hnone
    have afE : ∀ ν : Sto, afRes C R Ct Co ms x ws ws 0 ν = .rse Ct [("most", .int 1000)] ν := fun ν => by
      unfold afRes
      rw [if_neg (by unfold GT.wholeT; rw [hwl, hx]; show ¬ (0 = if ((12 : Nat) : Int) ≤ 1 then 1 else 1); decide), hnone]
    have cT : ∀ {ν : Sto}, Caught K mg base [.ref c1, .ref c2, .ref c3] ν (.rse Ct [("most", .int 1000)] ν) tooL := fun {ν} => by
      rw [← told_too]
      exact Caught.err E sho_1000 hm
    exact ST.retQ (EV.eq (cEqD hu (EV.caught (k := 111) (o := .rse Ct [("most", .int 1000)] (μ.set k u.ds)) (xs := tooL) hL rfl rfl Y.df Y.rep Y.tel Y.m1 Y.m2 Y.m3 hgd hr (by decide) cT (fun A2 outer2 s2 H2 Ex2 f2 c2' hr2 => EVR.meth0 (nm 3) B.klR.cl B.after (takesN (takes_of rfl rfl rfl rfl)) (hr2.mono (by decide)) rfl ⟨ms, 0, x, ws, ws, 0, rfl, hok0, (afE _).symm⟩) (hL := (show LamX.lamSB (defScope sLCleared) _ = true by decide +kernel))) (EVF.ev (EVF.lst (ds := tooL) (AV.cons EV.str (AV.cons EV.str AV.nil)))) tooL_ok.1 tooL_ok.1) (congrArg Bb tooL_ok.2)) ⟨rfl, u, take_set⟩
noncomputable abbrev nHd : List Str := ["_law_purse_here", "_law_tags_here", "_law_first", "_law_mates", "_law_mine", "_law_letters", "_law_sign", "_law_row_here", "_law_made", "_law_far", "_law_many"]
theorem scHd : FnScope nHd ["_law_purse_here"] (defScope sLByHand) := ⟨rfl, rfl, rfl, by decide +kernel, rfl, by decide +kernel, by decide +kernel⟩
theorem cHd (T : Bt mg) (Cp : CPick P w K mg base) (C1 : Cal P w K mg base "_law_tags" 4 ["_law_purse_here", "_law_many"] cnTags) (C2 : Cal P w K mg base "_law_call" 1 ["_law_tag_here"] cnC27) (C3 : Cal P w K mg base "_law_told" 3 ["_law_mates"] cnTold)
    (Y : CauR P w K mg base c1 c2 c3) (B : Bk27 P w K mg base C R Ct Co) (E : ErrC K mg Ct 8 "most") (hm : PySem.W.exmAny K (.ref Ct) [.ref c1, .ref c2, .ref c3] = some true)
    (inB : K.In base) (nsB : base.Ns mainGlobals mg) (L : LamB K mg base "_law_by_hand") (D : Df K mg "_law_by_hand" sLByHand) : CalGP P w K mg base "_law_by_hand" 114 ["_law_purse_here"] cnRt := by
  refine D.calGPL inB nsB L scHd (fun _ _ _ _ _ _ us hl => len1 us hl fun _ => rfl) (by decide) fun f cdv A outer s0 H Ex hL hgd hr rs μ Φ hC => ?_
  obtain ⟨k, p, rfl, ⟨hk, hp⟩, rfl⟩ := hC
  have hu : (cxOf CX0 P w K mg base nHd "_law_by_hand" (defScope sLByHand) f cdv A outer s0 H Ex).nox.A.units + 64 < PySem.cLine := Nat.lt_of_le_of_lt (Nat.add_le_add_left (show 64 ≤ 16 * 113 + 200 by decide) _) hr.un
  have hkl := (List.getElem?_eq_some_iff.mp hk).1
  have slen : ∀ {c : List PyData}, (μ.set k c).length = μ.length := fun {c} => List.length_set ..
  have cell : ∀ {c xs : List PyData} {rest : Sto}, (μ.set k c ++ (xs :: rest))[μ.length]? = some xs := fun {c xs rest} => by
    rw [List.getElem?_append_right (by rw [List.length_set]; exact Nat.le_refl _), List.length_set, Nat.sub_self]
    rfl
  have sets : ∀ {c xs ys : List PyData} {rest : Sto}, (μ.set k c ++ (xs :: rest)).set μ.length ys = μ.set k c ++ (ys :: rest) := fun {c xs ys rest} => by
    rw [List.set_append_right _ _ (by rw [List.length_set]; exact Nat.le_refl _), List.length_set, Nat.sub_self]
    rfl
  have tks : ∀ {c : List PyData} (rest : Sto), (μ.set k c ++ rest).take μ.length = μ.set k c := fun {c} rest => by
    rw [List.take_append_of_le_length (by rw [List.length_set]; exact Nat.le_refl _), List.take_of_length_le (by rw [List.length_set]; exact Nat.le_refl _)]
  have hlen := tags_len p 4
  have hok := tags_ok hp 4
  have hnm := tags_names hp 4 (by decide)
  have hnd := tags_nd (p := p) 4 (by decide)
  refine ST.set (i := 1) (r := Ls ((G.tags p 4).1.map .str)) (μ1 := μ.set k (G.tags p 4).2.ds) (EV.call C1 (hr.mono (by decide)) (AV.cons (nm 0) (AV.cons EV.int AV.nil)) ⟨k, 4, p, rfl, ⟨hk, hp, by decide⟩, rfl, rfl⟩) scHd.nd rfl (by first | exact Or.inl rfl | exact Or.inr rfl) ?_
  generalize (G.tags p 4).2 = u at *
  generalize (G.tags p 4).1 = tg at *
  obtain ⟨t0, t1, t2, t3, rfl⟩ : ∃ t0 t1 t2 t3, tg = [t0, t1, t2, t3] := match tg, hlen with | [a, b, c, d], _ => ⟨a, b, c, d, rfl⟩
  have at0 : ([PyData.str t0, .str t1, .str t2, .str t3])[0]? = some (.str t0) := rfl
  have at1 : ([PyData.str t0, .str t1, .str t2, .str t3])[1]? = some (.str t1) := rfl
  have at2 : ([PyData.str t0, .str t1, .str t2, .str t3])[2]? = some (.str t2) := rfl
  have at3 : ([PyData.str t0, .str t1, .str t2, .str t3])[3]? = some (.str t3) := rfl
  have hgo : ∀ {X : Cx} {ρ : REnv} {ν : Sto} {kk pp p1 p2 k1 k2} {s : Str} {i : Int}, EV X (.Tuple [.Constant (.str s) k1 p1, .Constant (.int i) k2 p2] kk pp) ρ ν (.dat (goalP (s, i))) ν := fun {X ρ ν kk pp p1 p2 k1 k2 s i} => EV.tup (ds := [.str s, .int i]) (AV.cons EV.str (AV.cons EV.int AV.nil))
  have fsD : ([1, 2, 4] : List Int).map (fun f => PyData.list [(G.jn1 f).d]) = [.list [(G.jn1 1).d], .list [(G.jn1 2).d], .list [(G.jn1 4).d]] := rfl
  refine ST.lc (i := 2) (own := [("_law_far", 9)]) (LCV.mapT (μ1 := μ.set k u.ds) (bs := ([1, 2, 4] : List Int)) PyData.int (fun f => PyData.list [(G.jn1 f).d]) (IV.lst (EV.lst (ds := [.int 1, .int 2, .int 4]) (AV.cons EV.int (AV.cons EV.int (AV.cons EV.int AV.nil))))) (fun o ho => ⟨_, fun _ _ _ _ _ => GV.name (i := 9) scHd.nd rfl (Or.inl rfl) (by simp), fun _ _ _ _ _ => EVF.ev (EVF.lst (ds := [(G.jn1 o).d]) (AV.cons (EV.tup (ds := [.str "join", .int 0, .int 1, .str "left", .int o, .str Str.empty]) (AV.cons EV.str (AV.cons EV.int (AV.cons EV.int (AV.cons EV.str (AV.cons (nm 9) (AV.cons EV.str AV.nil))))))) AV.nil))⟩) (by decide)) rfl scHd.nd rfl rfl (blkOk_by (N := nHd) (sc := defScope sLByHand) (by decide +kernel)) ?_ rfl
  rw [fsD]
  obtain ⟨hmg, hgg⟩ := GT.hand27_good hnm hnd
  have hyes := fun c ws h o => GT.hand27_yes hnd (c := c) (ws := ws) h o
  have hno := fun c ws h o => GT.hand27_no hnd (c := c) (ws := ws) h o
  obtain ⟨ms, hms⟩ : ∃ ms, ms = GT.hand27T t0 t1 t2 t3 := ⟨_, rfl⟩
  rw [← hms] at hmg hgg hyes hno
  have hmo := N.mates_ok hmg
  have hG := N.told_good hmg
  obtain ⟨O, Dj⟩ := GT.good_ok hmg hgg hG fun y hy r hr' => by
    obtain ⟨i, hi⟩ := List.mem_iff_getElem?.mp hy
    have h1 := (hmo.2 y hy).r r hr'
    exact ⟨N.round_read ((hmg.each i y hi).rounds r hr'), Nat.le_trans (line_len h1.1 h1.2) (by decide)⟩
  obtain ⟨x, hx⟩ : ∃ x, x = GT.top27T t0 t1 := ⟨_, rfl⟩
  rw [← hx] at hyes hno
  have hix : ms[0]? = some x := by rw [hms, hx]; rfl
  have hxm : x ∈ ms := List.mem_iff_getElem?.mpr ⟨0, hix⟩
  have hxt : x.tag = t0 := by rw [hx]; rfl
  obtain ⟨fs, hfs⟩ : ∃ fs : List PyData, fs = [.list [(G.jn1 1).d], .list [(G.jn1 2).d], .list [(G.jn1 4).d]] := ⟨_, rfl⟩
  rw [← hfs]
  refine ST.envK (ρ' := [some (.ptr k), some (Ls [.str t0, .str t1, .str t2, .str t3]), some (Ls fs), none, none, none, none, none, none, none, none]) rfl ?_
  refine ST.seqF (S1 := [_, _, _, _]) (fun ρ1 ν => ρ1 = [some (.ptr k), some (Ls [.str t0, .str t1, .str t2, .str t3]), some (Ls fs), some (.ptr μ.length), none, none, none, none, none, none, none] ∧ ν = μ.set k u.ds ++ [ms.map G.Mate.d]) (by rw [slen]; exact Nat.le_refl _) ?_ (fun ρ1 ν hP => ?_)
  · have one : ∀ {X : Cx} {ρ : REnv} {ν : Sto} {t : Str} {e : Expr} {kk pp m : Nat} {pos : Pos}, True := fun {_ _ _ _ _ _ _ _ _} => trivial
    refine ST.cell (i := 3) (EVF.lst (ds := [.tuple [.str t0, goalP ("all", 0), .int 1, .list (fs ++ [.list ((G.call1 t1).map G.Part.d)])]]) (AV.cons (EV.tup (ds := [.str t0, goalP ("all", 0), .int 1, .list (fs ++ [.list ((G.call1 t1).map G.Part.d)])]) (AV.cons (ixL (nm 1) EV.int (at_nat at0)) (AV.cons hgo (AV.cons EV.int (AV.cons (oCat (nm 2) (EVF.ev (EVF.lst (ds := [.list ((G.call1 t1).map G.Part.d)]) (AV.cons (EV.call C2 (hr.mono (by decide)) (AV.cons (ixL (nm 1) EV.int (at_nat at1)) AV.nil) ⟨t1, rfl, rfl, rfl⟩) AV.nil))) (by rw [hfs]; show 3 + 1 ≤ sizeLine; decide)) AV.nil))))) AV.nil)) scHd.nd rfl (by first | exact Or.inl rfl | exact Or.inr rfl) ?_
    rw [slen]
    refine ST.envK (ρ' := [some (.ptr k), some (Ls [.str t0, .str t1, .str t2, .str t3]), some (Ls fs), some (.ptr μ.length), none, none, none, none, none, none, none]) rfl ?_
    refine ST.expr (EV.app (d := .tuple [.str t1, goalP ("last", 2), .int 1, .list (List.replicate 3 (.list ((G.call1 t2).map G.Part.d)))]) (nm 3) (EV.tup (ds := [.str t1, goalP ("last", 2), .int 1, .list (List.replicate 3 (.list ((G.call1 t2).map G.Part.d)))]) (AV.cons (ixL (nm 1) EV.int (at_nat at1)) (AV.cons hgo (AV.cons EV.int (AV.cons (EV.eq (oRep (m := 3) (EVF.ev (EVF.lst (ds := [.list ((G.call1 t2).map G.Part.d)]) (AV.cons (EV.call C2 (hr.mono (by decide)) (AV.cons (ixL (nm 1) EV.int (at_nat at2)) AV.nil) ⟨t2, rfl, rfl, rfl⟩) AV.nil))) EV.int (by decide) (by show 1 ≤ 1000; decide)) rfl) AV.nil))))) cell (by show 1 ≤ 1000; decide)) ?_
    rw [sets]
    refine ST.expr (EV.app (d := .tuple [.str t2, goalP ("before", 0), .int 1, .list (List.replicate 3 (.list ((G.call1 t3).map G.Part.d)))]) (nm 3) (EV.tup (ds := [.str t2, goalP ("before", 0), .int 1, .list (List.replicate 3 (.list ((G.call1 t3).map G.Part.d)))]) (AV.cons (ixL (nm 1) EV.int (at_nat at2)) (AV.cons hgo (AV.cons EV.int (AV.cons (EV.eq (oRep (m := 3) (EVF.ev (EVF.lst (ds := [.list ((G.call1 t3).map G.Part.d)]) (AV.cons (EV.call C2 (hr.mono (by decide)) (AV.cons (ixL (nm 1) EV.int (at_nat at3)) AV.nil) ⟨t3, rfl, rfl, rfl⟩) AV.nil))) EV.int (by decide) (by show 1 ≤ 1000; decide)) rfl) AV.nil))))) cell (by show 2 ≤ 1000; decide)) ?_
    rw [sets]
    refine ST.expr (EV.app (d := .tuple [.str t3, goalP ("all", 0), .int 1, .list (List.replicate 4 (.list [G.jn2.d]))]) (nm 3) (EV.tup (ds := [.str t3, goalP ("all", 0), .int 1, .list (List.replicate 4 (.list [G.jn2.d]))]) (AV.cons (ixL (nm 1) EV.int (at_nat at3)) (AV.cons hgo (AV.cons EV.int (AV.cons (EV.eq (oRep (m := 4) (EVF.ev (EVF.lst (ds := [.list [G.jn2.d]]) (AV.cons (EVF.ev (EVF.lst (ds := [G.jn2.d]) (AV.cons (EV.tup (ds := [.str "join", .int 2, .int 3, .str "left", .int 1, .str Str.empty]) (AV.cons EV.str (AV.cons EV.int (AV.cons EV.int (AV.cons EV.str (AV.cons EV.int (AV.cons EV.str AV.nil))))))) AV.nil))) AV.nil))) EV.int (by decide) (by show 1 ≤ 1000; decide)) rfl) AV.nil))))) cell (by show 3 ≤ 1000; decide)) ?_
    rw [sets]
    refine ST.nil ⟨rfl, ?_⟩
    refine congrArg (fun z => μ.set k u.ds ++ [z]) ?_
    rw [hms, hfs]
    rfl
  · obtain ⟨rfl, rfl⟩ := hP
    rw [slen, tks]
    have hfr : frzE μ.length (μ.set k u.ds ++ [ms.map G.Mate.d]) [some (.ptr k), some (Ls [.str t0, .str t1, .str t2, .str t3]), some (Ls fs), some (.ptr μ.length), none, none, none, none, none, none, none] = [some (.ptr k), some (Ls [.str t0, .str t1, .str t2, .str t3]), some (Ls fs), some (Ls (ms.map G.Mate.d)), none, none, none, none, none, none, none] := by
      show [some (frz μ.length (μ.set k u.ds ++ [ms.map G.Mate.d]) (.ptr k)), _, _, some (frz μ.length (μ.set k u.ds ++ [ms.map G.Mate.d]) (.ptr μ.length)), _, _, _, _, _, _, _] = _
      rw [frz_lt hkl, frz_at (Nat.le_refl _) cell]
      rfl
    rw [hfr]
    refine ST.set (i := 4) (r := bookE C (ms.map G.told)) (EV.make B.mak (hr.mono (by decide)) (EV.call C3 (hr.mono (by decide)) (AV.cons (nm 3) AV.nil) ⟨ms, rfl, hmo, rfl, rfl⟩) hG) scHd.nd rfl (by first | exact Or.inl rfl | exact Or.inr rfl) ?_
    refine ST.set (i := 5) (r := Ss M.letters) (μ1 := μ.set k u.ds) (EV.eq EV.str (congrArg Ss GT.letters_are.symm)) scHd.nd rfl (by first | exact Or.inl rfl | exact Or.inr rfl) ?_
    have hlm : strD M.letters ≠ [] := by
      have : (strD M.letters).length = 26 := by
        unfold strD
        rw [List.length_map]
        decide +kernel
      intro z
      rw [z] at this
      cases this
    obtain ⟨hpk, hv⟩ := G.pick_ok (d := PyData.none) (l := strD M.letters) hok hlm
    have hl26 : (strD M.letters).length = 26 := by
      unfold strD
      rw [List.length_map]
      decide +kernel
    refine ST.set (i := 6) (r := .dat (G.pick .none (strD M.letters) u).1) (μ1 := μ.set k (G.pick .none (strD M.letters) u).2.ds) (EV.st (EV.call Cp (hr.mono (by decide)) (AV.cons (nm 0) (AV.cons (nm 5) AV.nil)) ⟨k, u, Ss M.letters, strD M.letters, rfl, ⟨at_set hk, hok, .inr ⟨M.letters, rfl, rfl, by decide +kernel⟩, by rw [hl26]; decide, by rw [hl26]; decide⟩, rfl, rfl⟩) (by rw [List.set_set])) scHd.nd rfl (by first | exact Or.inl rfl | exact Or.inr rfl) ?_
    generalize (G.pick PyData.none (strD M.letters) u).2 = v at *
    generalize (G.pick PyData.none (strD M.letters) u).1 = sg at *
    obtain ⟨c, hc, rfl⟩ := List.mem_map.mp hpk
    have mul_ : ∀ {X : Cx} {ρ : REnv} {ν ν1 : Sto} {a b : Expr} {pos : Pos} {n : Nat}, n ∈ [1, 2, 3, 4, 29, 1000] → EV X a ρ ν (Ss ⟨#[c]⟩) ν1 → EV X b ρ ν1 (Ii (n : Int)) ν1 → EV X (.BinOp a .Mult b pos) ρ ν (Ss (GT.mulS c n)) ν1 := fun {X ρ ν ν1 a b pos n} hn ha hb => by
      have h1 : ∀ n ∈ [1, 2, 3, 4, 29, 1000], 1 ≤ n := by decide
      exact EV.eq (oMulS ha hb (GT.mulOk_one (GT.mulC_all n hn) c)) (congrArg Ss (GT.mul_is c n (h1 n hn)))
    have hm6 : ∀ n ∈ GT.ns11, n ∈ [1, 2, 3, 4, 29, 1000] := by decide
    refine ST.set (i := 7) (r := Tp ((GT.ns11.map (GT.mulS c)).map .str)) (μ1 := μ.set k v.ds) (bTupL T (EV.eq (EVF.ev (LCV.evf (own := [("_law_many", 10)]) (LCV.mapT (bs := GT.ns11) (fun n : Nat => PyData.int (n : Int)) (fun n : Nat => PyData.str (GT.mulS c n)) (IV.eqD (IV.lst (EV.lst (ds := [.int 1, .int 1, .int 1, .int 1, .int 4, .int 4, .int 4, .int 4, .int 4, .int 4, .int 2]) (AV.cons EV.int (AV.cons EV.int (AV.cons EV.int (AV.cons EV.int (AV.cons EV.int (AV.cons EV.int (AV.cons EV.int (AV.cons EV.int (AV.cons EV.int (AV.cons EV.int (AV.cons EV.int AV.nil))))))))))))) rfl) (fun n hn => ⟨_, fun _ _ _ _ _ => GV.name (i := 10) scHd.nd rfl (Or.inl rfl) (by simp), fun _ _ _ _ _ => mul_ (hm6 n hn) (nm 6) (nm 10)⟩) (by decide)) rfl scHd.nd (blkOk_by (N := nHd) (sc := defScope sLByHand) (by decide +kernel)))) (congrArg Ls (by rw [List.map_map]; rfl)))) scHd.nd rfl (by first | exact Or.inl rfl | exact Or.inr rfl) ?_
    refine ST.envK (ρ' := [some (.ptr k), some (Ls [.str t0, .str t1, .str t2, .str t3]), some (Ls fs), some (Ls (ms.map G.Mate.d)), some (bookE C (ms.map G.told)), some (Ss M.letters), some (Ss ⟨#[c]⟩), some (Tp ((GT.ns11.map (GT.mulS c)).map .str)), none, none, none]) rfl ?_
    have hwd : ∀ n, (GT.ns11.map (GT.mulS c)).map PyData.str ++ [.str (GT.mulS c n)] = (GT.ws27 c n).map PyData.str := fun n => by
      unfold GT.ws27
      rw [List.map_append, List.map_append]
      rfl
    have hl11 : ∀ n, ((GT.ns11.map (GT.mulS c)).map PyData.str).length + [PyData.str (GT.mulS c n)].length ≤ sizeLine := fun n => by
      rw [List.length_map, List.length_map]
      show 11 + 1 ≤ sizeLine
      decide
    have hwh : ∀ n, GT.wholeT x (GT.ws27 c n) = 4 := fun n => by
      unfold GT.wholeT
      rw [GT.ws27_len, hx]
      rfl
    have hpc : ∀ n, n = 2 ∨ n = 3 → ∀ s ∈ GT.ws27 c n, GR.Piece s := fun n hn => GT.ws27_pc hc (by rcases hn with rfl | rfl <;> decide) (by rcases hn with rfl | rfl <;> decide)
    have hok0 : ∀ n, n = 2 ∨ n = 3 → GT.RowOk ms 0 x (GT.ws27 c n) (GT.ws27 c n) 0 := fun n hn => ⟨O, hix, by rw [GT.ws27_len]; decide, by rw [GT.ws27_len]; exact Nat.le_refl _, hpc n hn, rfl, fun s hs => Nat.le_trans (hpc n hn s hs).len.2 (by decide), Nat.zero_le _⟩
    have hrow : ∀ n, n = 2 ∨ n = 3 → ∀ {μ : Sto}, conRow C [bookE C (ms.map G.told), Ss t0, Tp ((GT.ws27 c n).map .str)] μ (GT.rowT C ms x (GT.ws27 c n) (GT.ws27 c n) 0) := fun n hn {μ} => by
      rw [← hxt]
      refine ⟨ms.map G.told, x.tag, 0, x.goal, x.base, x.rounds.map fun r => .str (G.line r), GT.ws27 c n, rfl, ⟨O.good, by rw [List.getElem?_map, List.getElem?_map, hix]; rfl, by rw [List.getElem?_map, hix]; rfl, O.gg x hxm⟩, ⟨(hok0 n hn).n1, (hok0 n hn).n12, hpc n hn⟩, ?_⟩
      unfold GT.rowT GT.wholeT
      rw [List.length_map]
      congr 1
      split <;> rfl
    obtain ⟨hF, q0, hF11⟩ := hyes c (GT.ws27 c 2) (GT.ws27_lens c 2) (GT.ws27_only c 2)
    obtain ⟨h1, h2, h3, q1, q2, q3, q4, h311, q5⟩ := hno c (GT.ws27 c 3) (GT.ws27_lens c 3) (GT.ws27_only c 3)
    have laY : ∀ ν : Sto, laRes C R Ct ms x (GT.ws27 c 2) (GT.lastT ms x (GT.ws27 c 2) (GT.wholeT x (GT.ws27 c 2) - 0) (GT.ws27 c 2) 0) ν = .ok (.obj R (GT.rowT C ms x (GT.ws27 c 2) hF 4)) ν := fun ν => by
      rw [hwh]
      show laRes C R Ct ms x (GT.ws27 c 2) (GT.lastT ms x (GT.ws27 c 2) 4 (GT.ws27 c 2) 0) ν = _
      rw [q0]
      unfold laRes
      rw [hwh]
    have laN : ∀ ν : Sto, laRes C R Ct ms x (GT.ws27 c 3) (GT.lastT ms x (GT.ws27 c 3) (GT.wholeT x (GT.ws27 c 3) - 0) (GT.ws27 c 3) 0) ν = .rse Ct [("most", .int 1000)] ν := fun ν => by
      rw [hwh]
      show laRes C R Ct ms x (GT.ws27 c 3) (GT.lastT ms x (GT.ws27 c 3) 4 (GT.ws27 c 3) 0) ν = _
      rw [q5]
      rfl
    have cT : ∀ {ν : Sto}, Caught K mg base [.ref c1, .ref c2, .ref c3] ν (.rse Ct [("most", .int 1000)] ν) tooL := fun {ν} => by
      rw [← told_too]
      exact Caught.err E sho_1000 hm
    have ok1 := GT.after_ok (hok0 3 (.inr rfl)) (by rw [hwh]; decide) q1
    have ok2 := GT.after_ok ok1 (by rw [hwh]; decide) q2
    have ok3 := GT.after_ok ok2 (by rw [hwh]; decide) q3
    have af : ∀ (b : Nat) (hd hn : List Str) (ν : Sto), b < 4 → GT.afterT ms x (GT.ws27 c 3) hd b = some hn → afRes C R Ct Co ms x (GT.ws27 c 3) hd b ν = .ok (.obj R (GT.rowT C ms x (GT.ws27 c 3) hn (b + 1))) ν := fun b hd hn ν hb q => by
      unfold afRes
      rw [if_neg (by rw [hwh]; exact Nat.ne_of_lt hb), q]
    have afN : ∀ ν : Sto, afRes C R Ct Co ms x (GT.ws27 c 3) h3 3 ν = .rse Ct [("most", .int 1000)] ν := fun ν => by
      unfold afRes
      rw [if_neg (by rw [hwh]; decide), q4]
    refine ST.setR (i := 8) (o := .ok (.obj R (GT.rowT C ms x (GT.ws27 c 2) hF 4)) (μ.set k v.ds)) (EVR.meth0 (EV.makeF B.row (hr.mono (by decide)) (AV.cons (nm 4) (AV.cons (ixL (nm 1) EV.int (at_nat at0)) (AV.cons (EV.eq (oCatT (nm 7) (EV.tup (ds := [.str (GT.mulS c 2)]) (AV.cons (mul_ (n := 2) (by decide) (nm 6) EV.int) AV.nil)) (hl11 2)) (congrArg Tp (hwd 2))) AV.nil))) (hrow 2 (.inl rfl))) B.klR.cl B.last takes0 (hr.mono (by decide)) rfl ⟨ms, 0, x, GT.ws27 c 2, GT.ws27 c 2, 0, rfl, hok0 2 (.inl rfl), (laY _).symm⟩) scHd.nd rfl (by first | exact Or.inl rfl | exact Or.inr rfl) ?_
    refine ST.envK (ρ' := [some (.ptr k), some (Ls [.str t0, .str t1, .str t2, .str t3]), some (Ls fs), some (Ls (ms.map G.Mate.d)), some (bookE C (ms.map G.told)), some (Ss M.letters), some (Ss ⟨#[c]⟩), some (Tp ((GT.ns11.map (GT.mulS c)).map .str)), some (.obj R (GT.rowT C ms x (GT.ws27 c 2) hF 4)), none, none]) rfl ?_
    have hat0 : (hF.map PyData.str)[11]? = some (.str (GT.mulS c 1000)) := by rw [List.getElem?_map, hF11]; rfl
    have hat3 : (h3.map PyData.str)[11]? = some (.str (GT.mulS c 29)) := by rw [List.getElem?_map, h311]; rfl
    have sh4 : Shw (.list [.int 4, .bool true]) := by
      refine (N.Sm.list (a := 0) (b := 100) (n := 2) (fun y hy => ?_) (Nat.le_refl _)).shwD rfl (by decide) (by decide)
      simp only [List.mem_cons, List.not_mem_nil, or_false] at hy
      rcases hy with rfl | rfl
      · exact (N.Sm.int (by decide) (by decide)).mono (by decide) (by decide)
      · exact ⟨rfl, by simp [PyData.showable], by simp [PyData.depth], by decide⟩
    have ov4 : ∀ {μ : Sto}, cnOver R [.obj R (GT.rowT C ms x (GT.ws27 c 2) hF 4)] μ (Bb true) μ := fun {μ} => ⟨_, 4, (GT.wholeT x (GT.ws27 c 2) : Int), rfl, ⟨rfl, rfl⟩, congrArg Bb (decide_eq_true (by rw [hwh]; rfl)).symm, rfl⟩
    refine ST.ifNo (WV.tv (WV.orF (tNe (ixT (EV.prop (nm 8) B.klR.cl B.words (hr.mono (by decide)) ⟨_, _, rfl, rfl, rfl, rfl⟩) EV.int (at_nat hat0)) (mul_ (n := 1000) (by decide) (nm 6) EV.int)) (WV.or1 (tNe (EV.eq (EV.reprD T.repr hgd hr (d := .list [.int 4, .bool true]) (EV.lst (ds := [.int 4, .bool true]) (AV.cons (EV.prop (nm 8) B.klR.cl B.done (hr.mono (by decide)) ⟨_, _, rfl, rfl, rfl, rfl⟩) (AV.cons (EV.prop (nm 8) B.klR.cl B.over (hr.mono (by decide)) ov4) AV.nil))) sh4) (congrArg Ss shown_4T)) EV.str)) (eqS_self _))) (eqS_self _) ?_
    refine ST.set (i := 8) (r := .obj R (GT.rowT C ms x (GT.ws27 c 3) (GT.ws27 c 3) 0)) (μ1 := μ.set k v.ds) (EV.makeF B.row (hr.mono (by decide)) (AV.cons (nm 4) (AV.cons (ixL (nm 1) EV.int (at_nat at0)) (AV.cons (EV.eq (oCatT (nm 7) (EV.tup (ds := [.str (GT.mulS c 3)]) (AV.cons (mul_ (n := 3) (by decide) (nm 6) EV.int) AV.nil)) (hl11 3)) (congrArg Tp (hwd 3))) AV.nil))) (hrow 3 (.inr rfl))) scHd.nd rfl (by first | exact Or.inl rfl | exact Or.inr rfl) ?_
    refine ST.envK (ρ' := [some (.ptr k), some (Ls [.str t0, .str t1, .str t2, .str t3]), some (Ls fs), some (Ls (ms.map G.Mate.d)), some (bookE C (ms.map G.told)), some (Ss M.letters), some (Ss ⟨#[c]⟩), some (Tp ((GT.ns11.map (GT.mulS c)).map .str)), some (.obj R (GT.rowT C ms x (GT.ws27 c 3) (GT.ws27 c 3) 0)), none, none]) rfl ?_
    refine ST.ifNo (tNeD hu (EV.caught (k := 111) (o := .rse Ct [("most", .int 1000)] (μ.set k v.ds)) (xs := tooL) hL rfl rfl Y.df Y.rep Y.tel Y.m1 Y.m2 Y.m3 hgd hr (by decide) cT (fun A2 outer2 s2 H2 Ex2 f2 c2' hr2 => EVR.meth0 (nm 8) B.klR.cl B.last (takesN (takes_of rfl rfl rfl rfl)) hr2 rfl ⟨ms, 0, x, GT.ws27 c 3, GT.ws27 c 3, 0, rfl, hok0 3 (.inr rfl), (laN _).symm⟩) (hL := (show LamX.lamSB (defScope sLByHand) _ = true by decide +kernel))) (EVF.ev (EVF.lst (ds := tooL) (AV.cons EV.str (AV.cons EV.str AV.nil)))) tooL_ok.1 tooL_ok.1) (by rw [tooL_ok.2]; rfl) ?_
    refine ST.setR (i := 8) (o := .ok (.obj R (GT.rowT C ms x (GT.ws27 c 3) h3 3)) (μ.set k v.ds)) (EVR.meth0 (EVR.ev (EVR.meth0 (EVR.ev (EVR.meth0 (nm 8) B.klR.cl B.after takes0 (hr.mono (by decide)) rfl ⟨ms, 0, x, GT.ws27 c 3, GT.ws27 c 3, 0, rfl, hok0 3 (.inr rfl), (af 0 _ h1 _ (by decide) q1).symm⟩)) B.klR.cl B.after takes0 (hr.mono (by decide)) rfl ⟨ms, 0, x, GT.ws27 c 3, h1, 1, rfl, ok1, (af 1 _ h2 _ (by decide) q2).symm⟩)) B.klR.cl B.after takes0 (hr.mono (by decide)) rfl ⟨ms, 0, x, GT.ws27 c 3, h2, 2, rfl, ok2, (af 2 _ h3 _ (by decide) q3).symm⟩) scHd.nd rfl (by first | exact Or.inl rfl | exact Or.inr rfl) ?_
    refine ST.envK (ρ' := [some (.ptr k), some (Ls [.str t0, .str t1, .str t2, .str t3]), some (Ls fs), some (Ls (ms.map G.Mate.d)), some (bookE C (ms.map G.told)), some (Ss M.letters), some (Ss ⟨#[c]⟩), some (Tp ((GT.ns11.map (GT.mulS c)).map .str)), some (.obj R (GT.rowT C ms x (GT.ws27 c 3) h3 3)), none, none]) rfl ?_
    exact ST.retQ (EV.andT (EV.eq (cEq (ixT (EV.prop (nm 8) B.klR.cl B.words (hr.mono (by decide)) ⟨_, _, rfl, rfl, rfl, rfl⟩) EV.int (at_nat hat3)) (mul_ (n := 29) (by decide) (nm 6) EV.int)) (congrArg Bb (show eqS (.str (GT.mulS c 29)) (.str (GT.mulS c 29)) = true from beq_self_eq_true _))) (EV.one (EV.eq (cEqD hu (EV.caught (k := 111) (o := .rse Ct [("most", .int 1000)] (μ.set k v.ds)) (xs := tooL) hL rfl rfl Y.df Y.rep Y.tel Y.m1 Y.m2 Y.m3 hgd hr (by decide) cT (fun A2 outer2 s2 H2 Ex2 f2 c2' hr2 => EVR.meth0 (nm 8) B.klR.cl B.after (takesN (takes_of rfl rfl rfl rfl)) (hr2.mono (by decide)) rfl ⟨ms, 0, x, GT.ws27 c 3, h3, 3, rfl, ok3, (afN _).symm⟩) (hL := (show LamX.lamSB (defScope sLByHand) _ = true by decide +kernel))) (EVF.ev (EVF.lst (ds := tooL) (AV.cons EV.str (AV.cons EV.str AV.nil)))) tooL_ok.1 tooL_ok.1) (congrArg Bb tooL_ok.2)))) ⟨rfl, v, take_set⟩
end
end J
namespace N
open PySem J L2
theorem words_sm {ws : List Str} (hl : ws.length ≤ 12) (hs : GT.Sh 1000 ws) (hw : GT.LoW ws) : Sm 1 150000 (tupT ws) := (Sm.tuple (a := 0) (b := 10002) (n := 12) (fun z hz => by
  obtain ⟨t, ht, rfl⟩ := List.mem_map.mp hz
  exact (Sm.str (n := 1000) (hw t ht) (hs t ht)).mono (by decide) (by decide)) (by rw [List.length_map]; exact hl)).mono (by decide) (by decide)
end N
namespace J
open PySem PySem.Spec
open PyProof.Rows L2
theorem small27 {m : Nat} (h : m ≤ 12) : -(2 ^ 62) ≤ (m : Int) ∧ (m : Int) < 2 ^ 62 := by omega
theorem rng27 {n : Nat} (h : n ≤ 9) : -(2 ^ 62) ≤ (1 : Int) ∧ (1 : Int) < 2 ^ 62 ∧ -(2 ^ 62) ≤ ((n + 1 : Nat) : Int) ∧ ((n + 1 : Nat) : Int) < 2 ^ 62 := ⟨by decide, by decide, (small27 (m := n + 1) (by omega)).1, (small27 (m := n + 1) (by omega)).2⟩
theorem toNat_s27 {n : Nat} : (((n + 1 : Nat) : Int) - 1).toNat = n := by omega
theorem len_last {n : Nat} (i : Nat) : ((i : Int) == (n : Int) - 1) = decide (i + 1 = n) := by
  by_cases h : i + 1 = n
  · rw [decide_eq_true h, ← h]
    exact beq_iff_eq.mpr (by omega)
  · rw [decide_eq_false h]
    exact beq_eq_false_iff_ne.mpr (by omega)
theorem pair_fine27 {a b : Str} (ha : PyData.strOk a = true) (hb : PyData.strOk b = true) : SeqAt.shaped (.list [.str a, .str b]) = true ∧ PyData.eqv (.list [.str a, .str b]) (.list [.str a, .str b]) = true := by
  have hy : ∀ y ∈ [a, b], PyData.strOk y = true := fun y hy => by
    simp only [List.mem_cons, List.not_mem_nil, or_false] at hy
    rcases hy with rfl | rfl <;> assumption
  exact ⟨N.shaped_strs (ys := [a, b]) hy, N.eqv_strs [a, b] hy⟩
noncomputable def endD (fl : Bool) (lst : List Str) : List PyData := if fl = true then tooL else [.str "told", .str (tupT lst).shown]
noncomputable def dueD (fl : Bool) : List PyData := if fl = true then tooL else [.str "IsOver", .str ""]
section
variable {w : World} {P : Program} {K : PySem.W.Frag} {base : Heap} {mg : Str → Option Value} {C R Ct Co c1 c2 c3 : Addr}
noncomputable abbrev nRt : List Str := ["_law_purse_here", "_law_tags_here", "_law_mates", "_law_k", "_law_lines", "_law_turn", "_law_by", "_law_far", "_law_side", "_law_joins_here", "_law_mine", "_law_row_here", "_law_led", "_law_long", "_law_made", "_law_due_here", "_law_over"]
theorem scRt : FnScope nRt ["_law_purse_here"] (defScope sLRight) := ⟨rfl, rfl, rfl, by decide +kernel, rfl, by decide +kernel, by decide +kernel⟩
theorem cRt (T : Bt mg) (C1 : CDraw P w K mg base) (Cp : CPick P w K mg base) (Ctg : Cal P w K mg base "_law_tags" 4 ["_law_purse_here", "_law_many"] cnTags) (Cgl : Cal P w K mg base "_law_goal" 2 ["_law_purse_here"] cnGoal) (Cov : COvers P w K mg base) (C2 : Cal P w K mg base "_law_call" 1 ["_law_tag_here"] cnC27) (C3 : Cal P w K mg base "_law_told" 3 ["_law_mates"] cnTold) (C4 : Cal P w K mg base "_law_pieces" 3 ["_law_purse_here", "_law_most"] cnPs)
    (C6 : Cal P w K mg base "_law_rows_led" 108 ["_law_mates", "_law_mate", "_law_row"] cnRw)
    (Y : CauR P w K mg base c1 c2 c3) (B : Bk27 P w K mg base C R Ct Co) (E : ErrC K mg Ct 8 "most") (hm : PySem.W.exmAny K (.ref Ct) [.ref c1, .ref c2, .ref c3] = some true) (E0 : Err0 K mg Co 9) (hm0 : PySem.W.exmAny K (.ref Co) [.ref c1, .ref c2, .ref c3] = some true)
    (inB : K.In base) (nsB : base.Ns mainGlobals mg) (L : LamB K mg base "_law_right") (D : Df K mg "_law_right" sLRight) : CalGP P w K mg base "_law_right" 114 ["_law_purse_here"] cnRt := by
  refine D.calGPL inB nsB L scRt (fun _ _ _ _ _ _ us hl => len1 us hl fun _ => rfl) (by decide) fun f cdv A outer s0 H Ex hL hgd hr rs μ Φ hC => ?_
  obtain ⟨k, p, rfl, ⟨hk, hp⟩, rfl⟩ := hC
  have hu : (cxOf CX0 P w K mg base nRt "_law_right" (defScope sLRight) f cdv A outer s0 H Ex).nox.A.units + 64 < PySem.cLine := Nat.lt_of_le_of_lt (Nat.add_le_add_left (show 64 ≤ 16 * 113 + 200 by decide) _) hr.un
  have hkl := (List.getElem?_eq_some_iff.mp hk).1
  have slen : ∀ {c : List PyData}, (μ.set k c).length = μ.length := fun {c} => List.length_set ..
  have cup : ∀ {c : List PyData} {rest : Sto}, (μ.set k c ++ rest)[k]? = some c := fun {c rest} => by
    rw [List.getElem?_append_left (by rw [List.length_set]; exact hkl), List.getElem?_set_self hkl]
  have cupS : ∀ {c d : List PyData} {rest : Sto}, (μ.set k c ++ rest).set k d = μ.set k d ++ rest := fun {c d rest} => by
    rw [List.set_append_left _ _ (by rw [List.length_set]; exact hkl), List.set_set]
  have cell : ∀ {c xs : List PyData} {rest : Sto}, (μ.set k c ++ (xs :: rest))[μ.length]? = some xs := fun {c xs rest} => by
    rw [List.getElem?_append_right (by rw [List.length_set]; exact Nat.le_refl _), List.length_set, Nat.sub_self]
    rfl
  have sets : ∀ {c xs ys : List PyData} {rest : Sto}, (μ.set k c ++ (xs :: rest)).set μ.length ys = μ.set k c ++ (ys :: rest) := fun {c xs ys rest} => by
    rw [List.set_append_right _ _ (by rw [List.length_set]; exact Nat.le_refl _), List.length_set, Nat.sub_self]
    rfl
  have tks : ∀ {c : List PyData} (rest : Sto), (μ.set k c ++ rest).take μ.length = μ.set k c := fun {c} rest => by
    rw [List.take_append_of_le_length (by rw [List.length_set]; exact Nat.le_refl _), List.take_of_length_le (by rw [List.length_set]; exact Nat.le_refl _)]
  have l1 : μ.length + 1 - μ.length = 1 := Nat.add_sub_cancel_left _ _
  have cellM : ∀ {c S M : List PyData}, (μ.set k c ++ [S, M])[μ.length + 1]? = some M := fun {c S M} => by
    rw [List.getElem?_append_right (by rw [List.length_set]; exact Nat.le_succ _), List.length_set, l1]
    rfl
  have setM : ∀ {c S M N2 : List PyData}, (μ.set k c ++ [S, M]).set (μ.length + 1) N2 = μ.set k c ++ [S, N2] := fun {c S M N2} => by
    rw [List.set_append_right _ _ (by rw [List.length_set]; exact Nat.le_succ _), List.length_set, l1]
    rfl
  obtain ⟨d0, d1, d2⟩ := G.draw_ok (m := 2) hp (by decide)
  obtain ⟨n, hn⟩ : ∃ n : Nat, 2 + (G.draw 2 p).1 = (n : Int) := ⟨(2 + (G.draw 2 p).1).toNat, (Int.toNat_of_nonneg (Int.add_nonneg (by decide) d0)).symm⟩
  have hn23 : 2 ≤ n ∧ n ≤ 4 := N.b23 d0 d1 hn
  refine ST.set (i := 1) (r := Ls ((G.tags (G.draw 2 p).2 n).1.map .str)) (μ1 := μ.set k (G.tags (G.draw 2 p).2 n).2.ds) (EV.st (EV.call Ctg (hr.mono (by decide)) (AV.cons (nm 0) (AV.cons (EV.eq (oAdd EV.int (EV.draw C1 hr (nm 0) EV.int hk hp)) (congrArg Ii hn)) AV.nil)) ⟨k, n, (G.draw 2 p).2, rfl, ⟨at_set hk, d2, Nat.le_succ_of_le hn23.2⟩, rfl, rfl⟩) (by rw [List.set_set])) scRt.nd rfl (by first | exact Or.inl rfl | exact Or.inr rfl) ?_
  have hlen := tags_len (G.draw 2 p).2 n
  have hok := tags_ok d2 n
  have h412 : n ≤ 12 := Nat.le_trans hn23.2 (by decide)
  have hnm := tags_names d2 n (Nat.le_succ_of_le hn23.2)
  have hnd := tags_nd (p := (G.draw 2 p).2) n (Nat.le_succ_of_le hn23.2)
  generalize (G.tags (G.draw 2 p).2 n).2 = u at *
  generalize (G.tags (G.draw 2 p).2 n).1 = tg at *
  have htg12 : tg.length ≤ 12 := hlen ▸ h412
  obtain ⟨hmg, hgg⟩ := N.mates27_good hnm hnd (by rw [hlen]; exact Nat.le_of_succ_le hn23.1) (by rw [hlen]; exact hn23.2) hok
  have hlast := (G.run_ok (R := fun _ _ => True) (f := G.mate27 tg) (List.range tg.length) u (fun b _ q hq => ⟨trivial, N.mate27_ok hq⟩) hok).2
  refine ST.envK (ρ' := [some (.ptr k), some (Ls (tg.map .str)), none, none, none, none, none, none, none, none, none, none, none, none, none, none, none]) rfl ?_
  refine ST.seqF (S1 := [_, _]) (fun ρ1 ν => (∃ x3 x4 x5 x6 x7 x8 x9, ρ1 = [some (.ptr k), some (Ls (tg.map .str)), some (.ptr μ.length), x3, x4, x5, x6, x7, x8, x9, none, none, none, none, none, none, none]) ∧ ν = μ.set k (G.run (G.mate27 tg) (List.range tg.length) u).2.ds ++ [(G.run (G.mate27 tg) (List.range tg.length) u).1.map G.Mate.d]) (by rw [slen]; exact Nat.le_refl _) ?_ (fun ρ1 ν hP => ?_)
  · refine ST.cell (i := 2) (EVF.lst (ds := []) AV.nil) scRt.nd rfl (by first | exact Or.inl rfl | exact Or.inr rfl) ?_
    rw [slen]
    refine ST.for_ (is := [3]) (ds := rngD 0 tg.length) (IV.eqD (IV.rng1 (bLenL T (nm 1)) (by rw [List.length_map]; exact (small27 htg12).1) (by rw [List.length_map]; exact (small27 htg12).2) T.range) (by rw [List.length_map, Int.toNat_natCast])) (fun i ρ ν => (∃ x3 x4 x5 x6 x7 x8 x9, ρ = [some (.ptr k), some (Ls (tg.map .str)), some (.ptr μ.length), x3, x4, x5, x6, x7, x8, x9, none, none, none, none, none, none, none]) ∧ ν = μ.set k (G.run (G.mate27 tg) (List.range i) u).2.ds ++ [(G.run (G.mate27 tg) (List.range i) u).1.map G.Mate.d]) ⟨⟨_, _, _, _, _, _, _, rfl⟩, rfl⟩ (fun i d ρ ν hd hI => ?_) (fun ρ ν hI => ?_) rfl
    · obtain ⟨⟨x3, x4, x5, x6, x7, x8, x9, rfl⟩, rfl⟩ := hI
      have hi : i < tg.length := by
        have := (List.getElem?_eq_some_iff.mp hd).1
        rwa [rngD_len] at this
      obtain rfl : d = .int (i : Int) := by
        unfold rngD at hd
        rw [List.getElem?_map, List.getElem?_range hi] at hd
        cases hd
        show PyData.int (0 + (i : Int)) = _
        rw [Int.zero_add]
      have hrun := G.run_ok (R := fun _ _ => True) (f := G.mate27 tg) (List.range i) u (fun b _ q hq => ⟨trivial, N.mate27_ok hq⟩) hok
      have hrl := G.run_len (G.mate27 tg) (List.range i) u
      rw [List.length_range] at hrl
      rw [List.range_succ, G.run_snoc]
      generalize (G.run (G.mate27 tg) (List.range i) u).1 = acc at *
      have hq2 := hrun.2
      generalize (G.run (G.mate27 tg) (List.range i) u).2 = v at *
      refine ⟨_, GV.name (i := 3) scRt.nd rfl (by first | exact Or.inl rfl | exact Or.inr rfl) (by simp), ?_⟩
      dsimp only
      rw [List.map_append, List.map_cons, List.map_nil]
      obtain ⟨lst, hls⟩ : ∃ lst, lst = decide (i + 1 = tg.length) := ⟨_, rfl⟩
      obtain ⟨nt, hnt⟩ : ∃ nt, nt = tg.getD (i + 1) Str.empty := ⟨_, rfl⟩
      have hmt : G.mate27 tg i v = (⟨tg.getD i Str.empty, (G.goalD (G.lines27 lst nt v).2).1, 1 + (G.draw 4 (G.goalD (G.lines27 lst nt v).2).2).1, (G.lines27 lst nt v).1⟩, (G.draw 4 (G.goalD (G.lines27 lst nt v).2).2).2) := by
        rw [hls, hnt]
        rfl
      rw [hmt]
      dsimp only
      have hati : (tg.map PyData.str)[i]? = some (.str (tg.getD i Str.empty)) := by
        rw [List.getElem?_map, List.getD_eq_getElem?_getD, List.getElem?_eq_getElem hi]
        rfl
      have f1 : ∀ {c : List PyData}, (μ.set k c ++ [acc.map G.Mate.d]).length = μ.length + 1 := fun {c} => by rw [List.length_append, slen]; rfl
      obtain ⟨m0, m1, hv1⟩ := G.draw_ok (m := 4) hq2 (by decide)
      have hl2 : (G.lines27 lst nt v).2.ok := N.lines27_ok hq2
      refine ST.envK (ρ' := [some (.ptr k), some (Ls (tg.map .str)), some (.ptr μ.length), some (Ii (i : Int)), x4, x5, x6, x7, x8, x9, none, none, none, none, none, none, none]) rfl ?_
      refine ST.seqF (S1 := [_, _]) (fun ρ1 ν => (∃ x5 x6 x7 x8 x9, ρ1 = [some (.ptr k), some (Ls (tg.map .str)), some (.ptr μ.length), some (Ii (i : Int)), some (.ptr (μ.length + 1)), x5, x6, x7, x8, x9, none, none, none, none, none, none, none]) ∧ ν = μ.set k (G.lines27 lst nt v).2.ds ++ [acc.map G.Mate.d, (G.lines27 lst nt v).1.map fun r => .list (r.map G.Part.d)]) (by rw [f1]; exact Nat.le_succ _) ?_ (fun ρ1 ν hP => ?_)
      · refine ST.cell (i := 4) (EVF.lst (ds := []) AV.nil) scRt.nd rfl (by first | exact Or.inl rfl | exact Or.inr rfl) ?_
        rw [f1, List.append_assoc]
        generalize hm4 : G.draw 4 v = dr at *
        have hlines : G.lines27 lst nt v = G.run (fun (_ : Nat) => G.round27 lst nt) (List.range (1 + dr.1).toNat) dr.2 := by
          unfold G.lines27
          rw [hm4]
        rw [hlines]
        obtain ⟨m, hmm⟩ : ∃ m : Nat, 1 + dr.1 = (m : Int) := ⟨(1 + dr.1).toNat, (Int.toNat_of_nonneg (Int.add_nonneg (by decide) m0)).symm⟩
        rw [hmm, Int.toNat_natCast]
        have hm12 : m ≤ 12 := N.b12 m1 hmm
        refine ST.for_ (is := [5]) (ds := rngD 0 m) (μ1 := μ.set k dr.2.ds ++ [acc.map G.Mate.d, []]) (IV.eqD (IV.rng1 (j := (m : Int)) (EV.eq (oAdd EV.int (EV.st (EV.drawE C1 (congrArg Prod.fst hm4) (congrArg Prod.snd hm4) hr (nm 0) EV.int cup hq2) cupS)) (congrArg Ii hmm)) (small27 hm12).1 (small27 hm12).2 T.range) (by rw [Int.toNat_natCast])) (fun i2 ρ ν => (∃ x5 x6 x7 x8 x9, ρ = [some (.ptr k), some (Ls (tg.map .str)), some (.ptr μ.length), some (Ii (i : Int)), some (.ptr (μ.length + 1)), x5, x6, x7, x8, x9, none, none, none, none, none, none, none]) ∧ ν = μ.set k (G.run (fun (_ : Nat) => G.round27 lst nt) (List.range i2) dr.2).2.ds ++ [acc.map G.Mate.d, (G.run (fun (_ : Nat) => G.round27 lst nt) (List.range i2) dr.2).1.map fun r => .list (r.map G.Part.d)]) ⟨⟨_, _, _, _, _, rfl⟩, rfl⟩ (fun i2 d2 ρ ν hd2 hI => ?_) (fun ρ ν hI => ?_) rfl
        · obtain ⟨⟨x5, x6, x7, x8, x9, rfl⟩, rfl⟩ := hI
          have hi2 : i2 < m := by
            have := (List.getElem?_eq_some_iff.mp hd2).1
            rwa [rngD_len] at this
          have hrun2 := G.run_ok (R := fun _ _ => True) (f := fun (_ : Nat) => G.round27 lst nt) (List.range i2) dr.2 (fun b _ q hq => ⟨trivial, N.round27_ok hq⟩) hv1
          have hrl2 := G.run_len (fun (_ : Nat) => G.round27 lst nt) (List.range i2) dr.2
          rw [List.length_range] at hrl2
          rw [List.range_succ, G.run_snoc]
          generalize (G.run (fun (_ : Nat) => G.round27 lst nt) (List.range i2) dr.2).1 = acc2 at *
          have hq3 := hrun2.2
          generalize (G.run (fun (_ : Nat) => G.round27 lst nt) (List.range i2) dr.2).2 = z at *
          obtain ⟨e1, e2, e3, e4⟩ := N.head27_ok hq3
          dsimp only
          rw [List.map_append, List.map_cons, List.map_nil]
          have hrd : G.round27 lst nt z = (if lst = true then (G.overs (G.head27 z).1.toNat (G.head27 z).2.2.2).1.map (G.joinP (G.head27 z).1 (G.head27 z).2.2.1 (G.head27 z).2.1) else G.call1 nt, (G.overs (G.head27 z).1.toNat (G.head27 z).2.2.2).2) := rfl
          have hhd : G.head27 z = (1 + (G.draw 3 z).1, 1 + (G.draw 2 (G.draw 3 z).2).1, (G.pick Str.empty ["left", "right"] (G.draw 2 (G.draw 3 z).2).2).1, (G.pick Str.empty ["left", "right"] (G.draw 2 (G.draw 3 z).2).2).2) := rfl
          obtain ⟨r0, r1, z1⟩ := G.draw_ok (m := 3) hq3 (by decide)
          obtain ⟨r2, r3, z2⟩ := G.draw_ok (m := 2) z1 (by decide)
          refine ⟨_, GV.name (i := 5) scRt.nd rfl (by first | exact Or.inl rfl | exact Or.inr rfl) (by simp), ?_⟩
          refine ST.asg (d := .tuple [.int (G.head27 z).1, .int (G.head27 z).2.1, .str (G.head27 z).2.2.1]) (is := [6, 7, 8]) (μ1 := μ.set k (G.head27 z).2.2.2.ds ++ [acc.map G.Mate.d, acc2.map fun r => .list (r.map G.Part.d)]) (EV.tup (ds := [.int (G.head27 z).1, .int (G.head27 z).2.1, .str (G.head27 z).2.2.1]) (AV.cons (oAdd EV.int (EV.st (EV.draw C1 hr (nm 0) EV.int cup hq3) cupS)) (AV.cons (oAdd EV.int (EV.st (EV.draw C1 hr (nm 0) EV.int cup z1) cupS)) (AV.cons (EV.st (EV.pickS (l := ["left", "right"]) Cp (hr.mono (by decide)) (nm 0) (EV.lst (ds := [.str "left", .str "right"]) (AV.cons EV.str (AV.cons EV.str AV.nil))) cup z2 (by decide) (by decide)) cupS) AV.nil)))) (GV.tup (GsV.cons (GV.name (i := 6) scRt.nd rfl (by first | exact Or.inl rfl | exact Or.inr rfl) (by simp)) (GsV.cons (GV.name (i := 7) scRt.nd rfl (by first | exact Or.inl rfl | exact Or.inr rfl) (by simp)) (GsV.cons (GV.name (i := 8) scRt.nd rfl (by first | exact Or.inl rfl | exact Or.inr rfl) (by simp)) GsV.nil)))) ?_
          rw [hrd]
          clear hrd hhd
          generalize (G.head27 z).2.2.2 = z3 at *
          generalize (G.head27 z).2.2.1 = side at *
          generalize (G.head27 z).2.1 = far at *
          generalize (G.head27 z).1 = by_ at *
          obtain ⟨bb, rfl⟩ : ∃ bb : Nat, by_ = (bb : Int) := ⟨by_.toNat, by omega⟩
          rw [Int.toNat_natCast]
          have hb13 : 1 ≤ bb ∧ bb ≤ 9 := by omega
          obtain ⟨o1, o2, o3, o4, o5⟩ := overs_ok (b := bb) e4 hb13.1
          have hob : (G.overs bb z3).1.length ≤ 100000 := Nat.le_trans (Nat.le_trans o2 hb13.2) (by decide)
          refine ST.lc (i := 9) (own := [("_law_over", 16)]) (LCV.mapT (μ1 := μ.set k (G.overs bb z3).2.ds ++ [acc.map G.Mate.d, acc2.map fun r => .list (r.map G.Part.d)]) (bs := (G.overs bb z3).1) PyData.int (G.Part.d ∘ G.joinP (bb : Int) side far) (IV.lst (EV.st (EV.call Cov (hr.mono (by decide)) (AV.cons (nm 0) (AV.cons (nm 6) AV.nil)) ⟨k, bb, z3, rfl, ⟨cup, e4, hb13.1, hb13.2⟩, rfl, rfl⟩) cupS)) (fun o ho => ⟨_, fun _ _ _ _ _ => GV.name (i := 16) scRt.nd rfl (Or.inl rfl) (by simp), fun _ _ _ _ _ => EV.tup (ds := [.str "join", .int o, .int (bb : Int), .str side, .int far, .str Str.empty]) (AV.cons EV.str (AV.cons (nm 16) (AV.cons (nm 6) (AV.cons (nm 8) (AV.cons (nm 7) (AV.cons EV.str AV.nil))))))⟩) hob) rfl scRt.nd rfl rfl (blkOk_by (N := nRt) (sc := defScope sLRight) (by decide +kernel)) ?_ rfl
          refine ST.expr (EV.app (d := .list ((if lst = true then (G.overs bb z3).1.map (G.joinP (bb : Int) side far) else G.call1 nt).map G.Part.d)) (nm 4) (EV.ifx (k := lst) (μ1 := μ.set k (G.overs bb z3).2.ds ++ [acc.map G.Mate.d, acc2.map fun r => .list (r.map G.Part.d)]) (TV.eq (tEq (nm 3) (oSub (bLenL T (nm 1)) EV.int)) ?_) (fun hz => ?_) (fun hz => ?_)) (cellM (M := acc2.map fun r => .list (r.map G.Part.d))) (by rw [List.length_map]; omega)) (ST.nil ⟨⟨_, _, _, _, _, rfl⟩, by rw [setM] <;> rfl⟩)
          · rw [hls, List.length_map]
            show ((i : Int) == (tg.length : Int) - 1) = decide (i + 1 = tg.length)
            exact len_last i
          · rw [if_pos hz, List.map_map]
            exact nm 9
          · rw [if_neg (by rw [hz]; decide)]
            have hz' : ¬ i + 1 = tg.length := by
              rw [hls] at hz
              exact of_decide_eq_false hz
            have hi1 : i + 1 < tg.length := Nat.lt_of_le_of_ne hi hz'
            have hat1 : (tg.map PyData.str)[i + 1]? = some (.str nt) := by
              rw [hnt, List.getElem?_map, List.getD_eq_getElem?_getD, List.getElem?_eq_getElem hi1]
              rfl
            exact EV.call C2 (hr.mono (by decide)) (AV.cons (ixL (nm 1) (EV.eq (oAdd (nm 3) EV.int) (congrArg Ii (show (i : Int) + 1 = ((i + 1 : Nat) : Int) from rfl))) (at_nat hat1)) AV.nil) ⟨nt, rfl, rfl, rfl⟩
        · obtain ⟨⟨x5, x6, x7, x8, x9, rfl⟩, rfl⟩ := hI
          rw [rngD_len]
          exact ST.nil ⟨⟨_, _, _, _, _, rfl⟩, rfl⟩
      · obtain ⟨⟨x5, x6, x7, x8, x9, rfl⟩, rfl⟩ := hP
        generalize (G.lines27 lst nt v).1 = lns at *
        generalize (G.lines27 lst nt v).2 = v3 at *
        rw [f1]
        have htk : (μ.set k v3.ds ++ [acc.map G.Mate.d, lns.map fun r => .list (r.map G.Part.d)]).take (μ.length + 1) = μ.set k v3.ds ++ [acc.map G.Mate.d] := by
          rw [show μ.set k v3.ds ++ [acc.map G.Mate.d, lns.map fun r => .list (r.map G.Part.d)] = (μ.set k v3.ds ++ [acc.map G.Mate.d]) ++ [lns.map fun r => .list (r.map G.Part.d)] by rw [List.append_assoc]; rfl, ← f1 (c := v3.ds), List.take_left]
        obtain ⟨y5, y6, y7, y8, y9, hfr⟩ : ∃ y5 y6 y7 y8 y9, frzE (μ.length + 1) (μ.set k v3.ds ++ [acc.map G.Mate.d, lns.map fun r => .list (r.map G.Part.d)]) [some (.ptr k), some (Ls (tg.map .str)), some (.ptr μ.length), some (Ii (i : Int)), some (.ptr (μ.length + 1)), x5, x6, x7, x8, x9, none, none, none, none, none, none, none] = [some (.ptr k), some (Ls (tg.map .str)), some (.ptr μ.length), some (Ii (i : Int)), some (Ls (lns.map fun r => .list (r.map G.Part.d))), y5, y6, y7, y8, y9, none, none, none, none, none, none, none] := by
          refine ⟨x5.map (frz (μ.length + 1) (μ.set k v3.ds ++ [acc.map G.Mate.d, lns.map fun r => .list (r.map G.Part.d)])), x6.map (frz (μ.length + 1) (μ.set k v3.ds ++ [acc.map G.Mate.d, lns.map fun r => .list (r.map G.Part.d)])), x7.map (frz (μ.length + 1) (μ.set k v3.ds ++ [acc.map G.Mate.d, lns.map fun r => .list (r.map G.Part.d)])), x8.map (frz (μ.length + 1) (μ.set k v3.ds ++ [acc.map G.Mate.d, lns.map fun r => .list (r.map G.Part.d)])), x9.map (frz (μ.length + 1) (μ.set k v3.ds ++ [acc.map G.Mate.d, lns.map fun r => .list (r.map G.Part.d)])), ?_⟩
          show [some (frz (μ.length + 1) (μ.set k v3.ds ++ [acc.map G.Mate.d, lns.map fun r => .list (r.map G.Part.d)]) (.ptr k)), _, some (frz (μ.length + 1) (μ.set k v3.ds ++ [acc.map G.Mate.d, lns.map fun r => .list (r.map G.Part.d)]) (.ptr μ.length)), _, some (frz (μ.length + 1) (μ.set k v3.ds ++ [acc.map G.Mate.d, lns.map fun r => .list (r.map G.Part.d)]) (.ptr (μ.length + 1))), _, _, _, _, _, _, _, _, _, _, _, _] = _
          rw [frz_lt (Nat.lt_succ_of_lt hkl), frz_lt (Nat.lt_succ_self _), frz_at (Nat.le_refl _) cellM]
          rfl
        rw [hfr, htk]
        clear hfr htk
        have hgo := goal_ok hl2
        refine ST.expr (EV.app (d := .tuple [.str (tg.getD i Str.empty), goalP (G.goalD v3).1, .int (1 + (G.draw 4 (G.goalD v3).2).1), .list (lns.map fun r => .list (r.map G.Part.d))]) (nm 2) (EV.tup (ds := [.str (tg.getD i Str.empty), goalP (G.goalD v3).1, .int (1 + (G.draw 4 (G.goalD v3).2).1), .list (lns.map fun r => .list (r.map G.Part.d))]) (μ1 := μ.set k (G.draw 4 (G.goalD v3).2).2.ds ++ [acc.map G.Mate.d]) (AV.cons (ixL (nm 1) (nm 3) (at_nat hati)) (AV.cons (EV.st (EV.call Cgl (hr.mono (by decide)) (AV.cons (nm 0) AV.nil) ⟨k, v3, rfl, ⟨cup, hl2⟩, rfl, rfl⟩) cupS) (AV.cons (oAdd EV.int (EV.st (EV.draw C1 hr (nm 0) EV.int cup hgo) cupS)) (AV.cons (nm 4) AV.nil))))) cell (by rw [List.length_map]; omega)) ?_
        rw [sets]
        exact ST.nil ⟨⟨_, _, _, _, _, _, _, rfl⟩, rfl⟩
    · obtain ⟨⟨x3, x4, x5, x6, x7, x8, x9, rfl⟩, rfl⟩ := hI
      rw [rngD_len]
      exact ST.nil ⟨⟨_, _, _, _, _, _, _, rfl⟩, rfl⟩
  · obtain ⟨⟨x3, x4, x5, x6, x7, x8, x9, rfl⟩, rfl⟩ := hP
    generalize (G.run (G.mate27 tg) (List.range tg.length) u).1 = ms at *
    generalize (G.run (G.mate27 tg) (List.range tg.length) u).2 = v4 at *
    rw [slen, tks]
    obtain ⟨y3, y4, y5, y6, y7, y8, y9, hfr⟩ : ∃ y3 y4 y5 y6 y7 y8 y9, frzE μ.length (μ.set k v4.ds ++ [ms.map G.Mate.d]) [some (.ptr k), some (Ls (tg.map .str)), some (.ptr μ.length), x3, x4, x5, x6, x7, x8, x9, none, none, none, none, none, none, none] = [some (.ptr k), some (Ls (tg.map .str)), some (Ls (ms.map G.Mate.d)), y3, y4, y5, y6, y7, y8, y9, none, none, none, none, none, none, none] := by
      refine ⟨x3.map (frz μ.length (μ.set k v4.ds ++ [ms.map G.Mate.d])), x4.map (frz μ.length (μ.set k v4.ds ++ [ms.map G.Mate.d])), x5.map (frz μ.length (μ.set k v4.ds ++ [ms.map G.Mate.d])), x6.map (frz μ.length (μ.set k v4.ds ++ [ms.map G.Mate.d])), x7.map (frz μ.length (μ.set k v4.ds ++ [ms.map G.Mate.d])), x8.map (frz μ.length (μ.set k v4.ds ++ [ms.map G.Mate.d])), x9.map (frz μ.length (μ.set k v4.ds ++ [ms.map G.Mate.d])), ?_⟩
      show [some (frz μ.length (μ.set k v4.ds ++ [ms.map G.Mate.d]) (.ptr k)), _, some (frz μ.length (μ.set k v4.ds ++ [ms.map G.Mate.d]) (.ptr μ.length)), _, _, _, _, _, _, _, _, _, _, _, _, _, _] = _
      rw [frz_lt hkl, frz_at (Nat.le_refl _) cell]
      rfl
    rw [hfr]
    clear hfr
    have hmo := N.mates_ok hmg
    have hG := N.told_good hmg
    obtain ⟨O, Dj⟩ := GT.good_ok hmg hgg hG fun y hy r hr' => by
      obtain ⟨i, hi⟩ := List.mem_iff_getElem?.mp hy
      have h1 := (hmo.2 y hy).r r hr'
      exact ⟨N.round_read ((hmg.each i y hi).rounds r hr'), Nat.le_trans (line_len h1.1 h1.2) (by decide)⟩
    have htgl : 0 < tg.length := by rw [hlen]; exact Nat.lt_of_lt_of_le (by decide) hn23.1
    obtain ⟨x, hix, hat0⟩ : ∃ x, ms[0]? = some x ∧ (tg.map PyData.str)[0]? = some (.str x.tag) := by
      have hl2 := hmg.len
      have h0 : 0 < ms.length := by rw [hl2]; exact htgl
      refine ⟨ms[0], List.getElem?_eq_getElem h0, ?_⟩
      rw [List.getElem?_map, (hmg.each 0 ms[0] (List.getElem?_eq_getElem h0)).tag]
      rfl
    have hxm : x ∈ ms := List.mem_iff_getElem?.mpr ⟨0, hix⟩
    have hatx : (ms.map G.Mate.d)[0]? = some x.d := by rw [List.getElem?_map, hix]; rfl
    obtain ⟨hpc, hv2, h1, h12'⟩ := G.pieces_ok (most := 12) hlast (by decide)
    refine ST.par (i := 10) (j := 11) (r1 := bookE C (ms.map G.told)) (r2 := Tp ((G.pieces 12 v4).1.map .str)) (μ1 := μ.set k (G.pieces 12 v4).2.ds) (AV.cons (x := bookE C (ms.map G.told)) (μ1 := μ.set k v4.ds) (EV.make B.mak (hr.mono (by decide)) (EV.call C3 (hr.mono (by decide)) (AV.cons (nm 2) AV.nil) ⟨ms, rfl, hmo, rfl, rfl⟩) hG) (AV.cons (EV.st (EV.call C4 (hr.mono (by decide)) (AV.cons (nm 0) (AV.cons EV.int AV.nil)) ⟨k, v4, 12, rfl, ⟨at_set hk, hlast, by decide, by decide⟩, rfl, rfl⟩) (by rw [List.set_set])) AV.nil)) scRt.nd rfl rfl (by decide) rfl rfl ?_ rfl
    generalize (G.pieces 12 v4).1 = ws at *
    generalize (G.pieces 12 v4).2 = v2 at *
    have h12 : ws.length ≤ 12 := Int.ofNat_le.mp h12'
    have hsh : GT.Sh 1000 ws := fun s hs => Nat.le_trans (hpc s hs).len.2 (by decide)
    have hlw : GT.LoW ws := fun s hs => N.lo_pieceT (hpc s hs)
    refine ST.envK (ρ' := [some (.ptr k), some (Ls (tg.map .str)), some (Ls (ms.map G.Mate.d)), y3, y4, y5, y6, y7, y8, y9, some (bookE C (ms.map G.told)), some (Tp (ws.map .str)), none, none, none, none, none]) rfl ?_
    have hTr := GT.tr_rows O Dj hxm h12 hsh
    refine ST.asg (d := .list [.list ((ws :: (GT.rowsW ms x ws).1).map tupT), .bool (GT.rowsW ms x ws).2]) (is := [12, 13]) (EV.call C6 (hr.mono (by decide)) (AV.cons (nm 2) (AV.cons (ixL (nm 2) EV.int (at_nat hatx)) (AV.cons (nm 11) AV.nil))) ⟨ms, 0, x, ws, rfl, ⟨O, hix, h1, h12, hsh⟩, rfl, rfl⟩) (GV.unl (GsV.cons (GV.name (i := 12) scRt.nd rfl (by first | exact Or.inl rfl | exact Or.inr rfl) (by simp)) (GsV.cons (GV.name (i := 13) scRt.nd rfl (by first | exact Or.inl rfl | exact Or.inr rfl) (by simp)) GsV.nil))) ?_
    have hok0 : GT.RowOk ms 0 x ws ws 0 := ⟨O, hix, h1, h12, hpc, rfl, hsh, Nat.zero_le _⟩
    have hall := GT.tr_ok _ hok0 hTr
    have hallL := GT.tr_lo hlw _ hlw hTr
    have hlastT := GT.tr_last _ hTr
    have htl := GT.tr_len _ hTr
    generalize (GT.rowsW ms x ws).2 = fl at *
    generalize (GT.rowsW ms x ws).1 = rest0 at *
    obtain ⟨lst, hlst⟩ : ∃ lst, lst = (ws :: rest0).getLast (List.cons_ne_nil _ _) := ⟨_, rfl⟩
    rw [← hlst] at hlastT
    have hlm : lst ∈ ws :: rest0 := by rw [hlst]; exact List.getLast_mem _
    have hlm1 := hall lst hlm
    have hlsm := N.words_sm (by rw [hlm1.1]; exact h12) hlm1.2 (hallL lst hlm)
    have hgl : (ws :: rest0).getLast? = some lst := by rw [hlst]; exact List.getLast?_eq_getLast _
    have hat : atI ((ws :: rest0).map tupT) (-1) = some (tupT lst) := atI_lstW (by rw [List.getLast?_map, hgl]; rfl)
    have shL : Shw (tupT lst) := hlsm.shwD rfl (by decide) (by decide)
    have hrow : ∀ {μ : Sto}, conRow C [bookE C (ms.map G.told), Ss x.tag, Tp (ws.map .str)] μ (GT.rowT C ms x ws ws 0) := fun {μ} => by
      refine ⟨ms.map G.told, x.tag, 0, x.goal, x.base, x.rounds.map fun r => .str (G.line r), ws, rfl, ⟨O.good, by rw [List.getElem?_map, List.getElem?_map, hix]; rfl, by rw [List.getElem?_map, hix]; rfl, O.gg x hxm⟩, ⟨h1, h12, hpc⟩, ?_⟩
      unfold GT.rowT GT.wholeT
      rw [List.length_map]
      congr 1
      split <;> rfl
    refine ST.envK (ρ' := [some (.ptr k), some (Ls (tg.map .str)), some (Ls (ms.map G.Mate.d)), y3, y4, y5, y6, y7, y8, y9, some (bookE C (ms.map G.told)), some (Tp (ws.map .str)), some (Ls ((ws :: rest0).map tupT)), some (Bb fl), none, none, none]) rfl ?_
    refine ST.set (i := 14) (r := .obj R (GT.rowT C ms x ws ws 0)) (μ1 := μ.set k v2.ds) (EV.makeF B.row (hr.mono (by decide)) (AV.cons (nm 10) (AV.cons (ixL (nm 1) EV.int (at_nat hat0)) (AV.cons (nm 11) AV.nil))) hrow) scRt.nd rfl (by first | exact Or.inl rfl | exact Or.inr rfl) ?_
    refine ST.set (i := 15) (r := Ls (endD fl lst)) (μ1 := μ.set k v2.ds) (EV.ifx (k := fl) (TV.val (nm 13)) (fun hz => ?_) (fun hz => ?_)) scRt.nd rfl (by first | exact Or.inl rfl | exact Or.inr rfl) ?_
    · unfold endD
      rw [if_pos hz]
      exact (EVF.lst (ds := tooL) (AV.cons EV.str (AV.cons EV.str AV.nil))).ev
    · unfold endD
      rw [if_neg (by rw [hz]; decide)]
      exact (EVF.lst (ds := [.str "told", .str (tupT lst).shown]) (AV.cons EV.str (AV.cons (EV.reprD T.repr hgd hr (ixL (nm 12) (EV.neg EV.int) hat) shL) AV.nil))).ev
    have hend : SeqAt.shaped (.list (endD fl lst)) = true ∧ PyData.eqv (.list (endD fl lst)) (.list (endD fl lst)) = true := by
      unfold endD
      split
      · exact tooL_ok
      · exact pair_fine27 (by decide +kernel) (N.okS_iff.mp (N.okS_shown _ hlsm.lay))
    have hdue : SeqAt.shaped (.list (dueD fl)) = true ∧ PyData.eqv (.list (dueD fl)) (.list (dueD fl)) = true := by
      unfold dueD
      split
      · exact tooL_ok
      · exact pair_fine27 (by decide +kernel) (by decide +kernel)
    refine ST.envK (ρ' := [some (.ptr k), some (Ls (tg.map .str)), some (Ls (ms.map G.Mate.d)), y3, y4, y5, y6, y7, y8, y9, some (bookE C (ms.map G.told)), some (Tp (ws.map .str)), some (Ls ((ws :: rest0).map tupT)), some (Bb fl), some (.obj R (GT.rowT C ms x ws ws 0)), some (Ls (endD fl lst)), none]) rfl ?_
    refine ST.ifNo (tNeD hu (EV.caughtPropF (k := 111) (R := R) (xs := endD fl lst) (d := tupT lst) (oo := if fl = true then .error (Ct, [(("most" : Str), PyData.int 1000)]) else .ok (GT.rowT C ms x ws lst (GT.wholeT x ws))) Y B.klR.cl B.words hL rfl rfl hgd hr (by decide) (by decide) ?_ (fun fs e => ?_) (fun A2 outer2 s2 H2 Ex2 f2 c2' hr2 => EVR.meth0 (nm 14) B.klR.cl B.last (takesN (takes_of rfl rfl rfl rfl)) hr2 rfl ⟨ms, 0, x, ws, ws, 0, rfl, hok0, ?_⟩) (hL := (show LamX.lamSB (defScope sLRight) _ = true by decide +kernel))) (nm 15) hend.1 hend.1) (by rw [hend.2]; rfl) ?_
    · unfold endD
      cases fl with
      | true =>
        rw [if_pos rfl, if_pos rfl, ← told_too]
        exact Caught.err E sho_1000 hm
      | false =>
        rw [if_neg Bool.false_ne_true, if_neg Bool.false_ne_true]
        exact Caught.told (hlsm.sho rfl (by decide) (by decide))
    · cases fl with
      | true =>
        rw [if_pos rfl] at e
        cases e
      | false =>
        rw [if_neg Bool.false_ne_true] at e
        cases e
        exact ⟨_, _, rfl, rfl, rfl, rfl⟩
    · rw [hlastT]
      cases fl <;> rfl
    have hlenR : (ws :: rest0).length = rest0.length + 1 := rfl
    have hr9 : rest0.length ≤ 9 := by
      have := O.many x hxm
      have hw5 : GT.wholeT x ws ≤ 5 := by
        unfold GT.wholeT
        split
        · decide
        · exact this
      rw [Nat.zero_add] at htl
      exact Nat.le_trans (Nat.le_trans htl hw5) (by decide)
    refine ST.for_ (is := [3]) (ds := rngD 1 rest0.length) (IV.eqD (IV.rng2 (j := ((rest0.length + 1 : Nat) : Int)) EV.int (EV.eq (bLenL T (nm 12)) (by rw [List.length_map, hlenR])) (rng27 hr9) T.range) (by rw [toNat_s27])) (fun i ρ ν => ∃ (held : List Str), (∃ x3, ρ = [some (.ptr k), some (Ls (tg.map .str)), some (Ls (ms.map G.Mate.d)), x3, y4, y5, y6, y7, y8, y9, some (bookE C (ms.map G.told)), some (Tp (ws.map .str)), some (Ls ((ws :: rest0).map tupT)), some (Bb fl), some (.obj R (GT.rowT C ms x ws held i)), some (Ls (endD fl lst)), none]) ∧ ν = μ.set k v2.ds ∧ (ws :: rest0)[i]? = some held ∧ GT.RowOk ms 0 x ws held i ∧ GT.Tr ms x ws i held ((ws :: rest0).drop (i + 1)) fl) ⟨ws, ⟨_, rfl⟩, rfl, rfl, hok0, hTr⟩ (fun i d ρ ν hd hI => ?_) (fun ρ ν hI => ?_) rfl
    · obtain ⟨held, ⟨x3, rfl⟩, rfl, hat2, hok, htr⟩ := hI
      have hi : i < rest0.length := by
        have := (List.getElem?_eq_some_iff.mp hd).1
        rwa [rngD_len] at this
      obtain rfl : d = .int ((i + 1 : Nat) : Int) := by
        unfold rngD at hd
        rw [List.getElem?_map, List.getElem?_range hi] at hd
        cases hd
        show PyData.int (1 + (i : Int)) = _
        rw [Int.add_comm 1]
        rfl
      refine ⟨_, GV.name (i := 3) scRt.nd rfl (by first | exact Or.inl rfl | exact Or.inr rfl) (by simp), ?_⟩
      have hdl : ((ws :: rest0).drop (i + 1)).length = rest0.length - i := by rw [List.length_drop, hlenR]; exact Nat.add_sub_add_right _ _ _
      cases e : (ws :: rest0).drop (i + 1) with
      | nil =>
        rw [e] at hdl
        exact absurd (show (0 : Nat) = rest0.length - i from hdl) (Nat.ne_of_lt (Nat.sub_pos_of_lt hi))
      | cons h1' tl =>
        rw [e] at htr
        obtain ⟨t1, t2, t3⟩ := htr
        have haf : ∀ ν : Sto, afRes C R Ct Co ms x ws held i ν = .ok (.obj R (GT.rowT C ms x ws h1' (i + 1))) ν := fun ν => by
          unfold afRes
          rw [if_neg (Nat.ne_of_lt t1), t2]
        have hd2 : (ws :: rest0).drop (i + 1 + 1) = tl := by
          have : ((ws :: rest0).drop (i + 1)).drop 1 = (h1' :: tl).drop 1 := by rw [e]
          rw [List.drop_drop] at this
          exact this
        have hat4 : (ws :: rest0)[i + 1]? = some h1' := by
          have : ((ws :: rest0).drop (i + 1))[0]? = (h1' :: tl)[0]? := by rw [e]
          rw [List.getElem?_drop, Nat.add_zero] at this
          exact this
        have hm1 : h1' ∈ ws :: rest0 := List.mem_iff_getElem?.mpr ⟨i + 1, hat4⟩
        have hs1 := N.words_sm (by rw [(hall h1' hm1).1]; exact h12) (hall h1' hm1).2 (hallL h1' hm1)
        have shH : Shw (tupT h1') := hs1.shwD rfl (by decide) (by decide)
        have hat5 : ((ws :: rest0).map tupT)[i + 1]? = some (tupT h1') := by rw [List.getElem?_map, hat4]; rfl
        refine ST.envK (ρ' := [some (.ptr k), some (Ls (tg.map .str)), some (Ls (ms.map G.Mate.d)), some (Ii ((i + 1 : Nat) : Int)), y4, y5, y6, y7, y8, y9, some (bookE C (ms.map G.told)), some (Tp (ws.map .str)), some (Ls ((ws :: rest0).map tupT)), some (Bb fl), some (.obj R (GT.rowT C ms x ws held i)), some (Ls (endD fl lst)), none]) rfl ?_
        refine ST.setR (i := 14) (o := .ok (.obj R (GT.rowT C ms x ws h1' (i + 1))) (μ.set k v2.ds)) (EVR.meth0 (nm 14) B.klR.cl B.after takes0 (hr.mono (by decide)) rfl ⟨ms, 0, x, ws, held, i, rfl, hok, (haf _).symm⟩) scRt.nd rfl (by first | exact Or.inl rfl | exact Or.inr rfl) ?_
        refine ST.ifNo (tNe (EV.reprD T.repr hgd hr (d := tupT h1') (EV.prop (nm 14) B.klR.cl B.words (hr.mono (by decide)) ⟨_, _, rfl, rfl, rfl, rfl⟩) shH) (EV.reprD T.repr hgd hr (ixL (nm 12) (nm 3) (at_nat hat5)) shH)) (eqS_self _) ?_
        exact ST.nil ⟨h1', ⟨_, rfl⟩, rfl, hat4, GT.after_ok hok t1 t2, by rw [hd2]; exact t3⟩
    · obtain ⟨held, ⟨x3, rfl⟩, rfl, hat2, hok, htr⟩ := hI
      rw [rngD_len] at hat2 hok htr
      have hdl : (ws :: rest0).drop (rest0.length + 1) = [] := List.drop_of_length_le (by rw [hlenR]; exact Nat.le_refl _)
      rw [hdl] at htr
      rw [rngD_len]
      refine ST.retQ (EV.eq (cEqD hu (EV.caught (k := 111) (o := afRes C R Ct Co ms x ws held rest0.length (μ.set k v2.ds)) (xs := dueD fl) hL rfl rfl Y.df Y.rep Y.tel Y.m1 Y.m2 Y.m3 hgd hr (by decide) ?_ (fun A2 outer2 s2 H2 Ex2 f2 c2' hr2 => EVR.meth0 (nm 14) B.klR.cl B.after (takesN (takes_of rfl rfl rfl rfl)) (hr2.mono (by decide)) rfl ⟨ms, 0, x, ws, held, rest0.length, rfl, hok, rfl⟩) (hL := (show LamX.lamSB (defScope sLRight) _ = true by decide +kernel))) (EV.ifx (z := Ls (dueD fl)) (k := fl) (TV.val (nm 13)) (fun hz => ?_) (fun hz => ?_)) hdue.1 hdue.1) (congrArg Bb hdue.2)) ⟨rfl, v2, take_set⟩
      · unfold afRes dueD
        rcases htr with ⟨z1, z2, z3⟩ | ⟨z1, z2⟩
        · rw [if_neg (Nat.ne_of_lt z2), z3, if_pos z1, ← told_too]
          exact Caught.err E sho_1000 hm
        · rw [if_pos z2, if_neg (by rw [z1]; decide)]
          exact Caught.err0 E0 hm0
      · unfold dueD
        rw [if_pos hz]
        exact (EVF.lst (ds := tooL) (AV.cons EV.str (AV.cons EV.str AV.nil))).ev
      · unfold dueD
        rw [if_neg (by rw [hz]; decide)]
        exact (EVF.lst (ds := [.str "IsOver", .str ""]) (AV.cons EV.str (AV.cons EV.str AV.nil))).ev
end
end J
namespace J
open PySem PySem.Spec
open PyProof.Rows L2
section
variable {w : World} {P : Program} {K : PySem.W.Frag} {base : Heap} {mg : Str → Option Value}
theorem scLw27 : FnScope ["_law_script", "_law_k"] ["_law_script"] (defScope sLaw) := ⟨rfl, rfl, rfl, by decide +kernel, rfl, by decide +kernel, by decide +kernel⟩
theorem gLw27 (T : Bt mg) (C1 : Cal P w K mg base "_law_cell" 1 ["_law_script", "_law_k"] cnCell) (C2 : CalF P w K mg base "_law_purse" 1 ["_law_number"] cnPurse) (C3 : CalGP P w K mg base "_law_right" 114 ["_law_purse_here"] cnRt) (C4 : CalGP P w K mg base "_law_by_hand" 114 ["_law_purse_here"] cnRt) (C5 : CalGP P w K mg base "_law_cleared" 114 ["_law_purse_here"] cnRt) {f : Addr} {fd : FuncData} (F : Fun K "law" "law" sLaw f fd) : FnG P w K mg base 116 f fd ["_law_script"] (spLawT K) := by
  refine gLawS (kr := 115) scLw27 (by decide) F fun cdv B o t Gh E ns hgd hr => ?_
  have hR : ∀ p : G.Pu, p.ok → ∃ Φ, cnRt [.ptr ([] : Sto).length] (([] : Sto) ++ [p.ds]) Φ ∧ ∀ r μ', Φ r μ' → r = Bb true ∧ ∃ ys, μ' = ([] : Sto) ++ [ys] := fun p hp => ⟨_, ⟨0, p, rfl, ⟨rfl, hp⟩, rfl⟩, fun r μ' h => ⟨h.1, h.2.elim fun q hq => ⟨q.ds, hq⟩⟩⟩
  refine ST.envK (ρ' := [some (.scr ns), none]) rfl ?_
  refine ST.ifNo (μ1 := []) (WV.tv (WV.orF (μ1 := []) (TV.not (TV.val (k := true) ?_)) (WV.or1 (TV.not (TV.val (k := true) ?_))))) rfl ?_
  · obtain ⟨Φ, h1, h2⟩ := hR _ (purse_ok (cellOf ns 0))
    exact EV.callNewP C4 hgd (hr.mono (by decide)) (EVF.call C2 (hr.mono (by decide)) (AV.cons (EV.call C1 (hr.mono (by decide)) (AV.cons (nm 0) (AV.cons EV.int AV.nil)) ⟨ns, 0, rfl, by decide, rfl, rfl⟩) AV.nil) ⟨_, rfl, rfl⟩) h1 h2
  · obtain ⟨Φ, h1, h2⟩ := hR _ (purse_ok (cellOf ns 1))
    exact EV.callNewP C5 hgd (hr.mono (by decide)) (EVF.call C2 (hr.mono (by decide)) (AV.cons (EV.call C1 (hr.mono (by decide)) (AV.cons (nm 0) (AV.cons EV.int AV.nil)) ⟨ns, 1, rfl, by decide, rfl, rfl⟩) AV.nil) ⟨_, rfl, rfl⟩) h1 h2
  obtain ⟨n, hn3, hn⟩ := len_mx 3 (by decide) (ns.length : Int) (by omega)
  refine ST.retP (r' := Bb (((List.range n).map fun _ => true).all id)) (ν := []) (bAll (bs := (List.range n).map fun _ => true) T rfl (EV.eq (EVF.ev (LCV.evf (own := [("_law_k", 1)]) (LCV.mapT (bs := List.range n) (fun (i : Nat) => PyData.int (0 + (i : Int))) (fun _ => .bool true) (IV.eqD (IV.rng1 (EV.eq (EV.callB (call_max2 rfl) T.max (by decide +kernel) (AV.cons EV.int (AV.cons (EV.callB (call_min2 rfl) T.min (by decide +kernel) (AV.cons (bLenScr T (nm 0)) (AV.cons EV.int AV.nil)) cv_min) AV.nil)) cv_max) (congrArg Ii hn)) (by omega) (by omega) T.range) (by rw [Int.toNat_natCast]; rfl)) (fun i hi => ?_) (by simp; omega)) rfl scLw27.nd (blkOk_by (N := ["_law_script", "_law_k"]) (sc := defScope sLaw) (by decide +kernel)))) (congrArg Ls (by rw [List.map_map]; rfl)))) ?_ rfl
  · have hil : i < n := List.mem_range.mp hi
    refine ⟨_, fun _ _ _ _ _ => GV.name (i := 1) scLw27.nd rfl (Or.inl rfl) (by simp), fun _ _ _ _ _ => ?_⟩
    obtain ⟨Φ, h1, h2⟩ := hR _ (purse_ok (cellOf ns i))
    exact EV.callNewP C3 hgd (hr.mono (by decide)) (EVF.call C2 (hr.mono (by decide)) (AV.cons (EV.call C1 (hr.mono (by decide)) (AV.cons (nm 0) (AV.cons (nm 1) AV.nil)) ⟨ns, i, by rw [Int.zero_add], by omega, rfl, rfl⟩) AV.nil) ⟨_, rfl, rfl⟩) h1 h2
  · have e : ((List.range n).map fun _ => true).all id = true := by
      rw [List.all_map, List.all_eq_true]
      exact fun _ _ => rfl
    rw [e]
    rfl
end
end J
namespace J
open PySem PySem.Spec
open PyProof.Rows L2
section
variable {P : Program} {w : World} {K : PySem.W.Frag} {mg : Str → Option Value} {base h : Heap} {C : Addr}
theorem df_mk {n : Str} {st : Stmt} {f : Addr} {od an : Option Addr} {sl : Array (Option Value)} {oc kV dc pm cd ct : Value} (X : K.In h) (G : h.Ns mainGlobals mg) (a : PySem.W.nsIn K mainGlobals n = some (some (.ref f)))
    (l : K.lookup f = some ⟨oc, od, .func (PySem.W.fnOf n n (defArgs st) (defBody st) (defScope st) .none kV dc pm an cd ct), sl⟩) (c : PySem.W.codeIn K cd n = true) (k : PySem.W.keepIn K (.ref f) = true) : Df K mg n st := ⟨f, _, fun_mk l c k, PySem.W.mg_of X G a⟩
structure MFun (K : PySem.W.Frag) (C : Addr) (m qual : Str) (st : Stmt) : Prop where
  ex : ∃ f fd, Fun K m qual st f fd ∧ PySem.W.findIn K (.ref C) m = some (some (.ref f)) ∧ PySem.W.isFn K (.ref f) = true
theorem mf_mk {m qual : Str} {st : Stmt} {f : Addr} {od an : Option Addr} {sl : Array (Option Value)} {oc kV dc pm cd ct : Value} (a : PySem.W.findIn K (.ref C) m = some (some (.ref f))) (i : PySem.W.isFn K (.ref f) = true)
    (l : K.lookup f = some ⟨oc, od, .func (PySem.W.fnOf m qual (defArgs st) (defBody st) (defScope st) .none kV dc pm an cd ct), sl⟩) (c : PySem.W.codeIn K cd qual = true) (k : PySem.W.keepIn K (.ref f) = true) : MFun K C m qual st := ⟨f, _, fun_mk l c k, a, i⟩
structure PFun (K : PySem.W.Frag) (C : Addr) (m qual : Str) (st : Stmt) : Prop where
  ex : ∃ p f fd, Fun K m qual st f fd ∧ PropOf K C m p f
theorem pf_mk {m qual : Str} {st : Stmt} {p f : Addr} {rest : List Value} {od an : Option Addr} {sl : Array (Option Value)} {oc kV dc pm cd ct : Value} (a : PySem.W.findIn K (.ref C) m = some (some (.ref p))) (g : PySem.W.specialIn K (.ref p) "__get__" = some (some (.builtin "property.__get__"))) (t : PySem.W.takesIn K (.ref p) = some true) (r : PySem.W.recIn K p "property" = some (.ref f :: rest))
    (l : K.lookup f = some ⟨oc, od, .func (PySem.W.fnOf m qual (defArgs st) (defBody st) (defScope st) .none kV dc pm an cd ct), sl⟩) (c : PySem.W.codeIn K cd qual = true) (k : PySem.W.keepIn K (.ref f) = true) : PFun K C m qual st := ⟨p, f, _, fun_mk l c k, a, g, t, rest, r⟩
theorem gl_of {n : Str} {v : Value} (X : K.In h) (G : h.Ns mainGlobals mg) (e : PySem.W.nsIn K mainGlobals n = some (some v)) : mg n = some v := PySem.W.mg_of X G e
theorem no_of {n : Str} (X : K.In h) (G : h.Ns mainGlobals mg) (e : PySem.W.nsIn K mainGlobals n = some none) : mg n = none := PySem.W.mg_none_of X G e
theorem gx_of {n : Str} {v : Tok → Value} {t : Tok} (X : K.In h) (G : h.Ns mainGlobals mg) (e : PySem.W.nsIn K mainGlobals n = some (some (v t))) : ∃ t, mg n = some (v t) := ⟨t, PySem.W.mg_of X G e⟩
end
end J
namespace J
open PySem PySem.Spec
open PyProof.Rows L2
noncomputable def errOk (K : PySem.W.Frag) (D : Addr) (n : Nat) (f : Str) (U0 U1 U2 : Addr) : Bool :=
  (List.range 12).all (fun j => match PySem.W.nsIn K mainGlobals (errName j) with
    | some (some (.ref T)) => decide (PySem.W.kitOne K (.ref D) (.ref T) = some (j == n))
    | _ => false) &&
  (List.range 3).all (fun j => decide (PySem.W.nsIn K mainGlobals (baseNs.getD j Str.empty) = some (some (.ref ([U0, U1, U2].getD j 0)))) && decide (PySem.W.kitOne K (.ref D) (.ref ([U0, U1, U2].getD j 0)) = some (errSort n j))) &&
  (List.range 3).all (fun j => decide (PySem.W.nsIn K mainGlobals (ownNs.getD j "") = some none) && decide (PySem.W.kitOne K (.ref D) (.type (ownNs.getD j "")) = some (errSort n j))) &&
  xfB K D && decide (PySem.W.findIn K (.ref D) f = some none) && decide (PySem.W.findIn K (.ref D) "__class__" = some (some (.builtin "object.__class__"))) && decide (PySem.W.specialIn K (.builtin "object.__class__") "__get__" = some (some (.builtin "getset_descriptor.__get__"))) &&
  decide (PySem.W.takesIn K (.builtin "object.__class__") = some true) && decide (PySem.W.mroIn K D (.type "object") = some true) && decide (PySem.W.exmAny K (.ref D) [.ref U0, .ref U1, .ref U2] = some true)
section
variable {K : PySem.W.Frag} {h : Heap} {mg : Str → Option Value} {D U0 U1 U2 : Addr} {n : Nat} {f : Str}
theorem errC_of (X : K.In h) (G : h.Ns mainGlobals mg) (e : errOk K D n f U0 U1 U2 = true) (hn : ErrAt n f) :
    ErrC K mg D n f ∧ PySem.W.exmAny K (.ref D) [.ref U0, .ref U1, .ref U2] = some true ∧ mg "NotRight" = some (.ref U0) ∧ mg "NotThere" = some (.ref U1) ∧ mg "CannotBe" = some (.ref U2) := by
  unfold errOk at e
  simp only [Bool.and_eq_true, decide_eq_true_eq] at e
  obtain ⟨⟨⟨⟨⟨⟨⟨⟨⟨e1, e2⟩, e3⟩, e4⟩, e5⟩, e6⟩, e7⟩, e8⟩, e9⟩, e10⟩ := e
  have xc := xfB_ok e4
  have b : ∀ j, j < 3 → mg (baseNs.getD j Str.empty) = some (.ref ([U0, U1, U2].getD j 0)) ∧ PySem.W.kitOne K (.ref D) (.ref ([U0, U1, U2].getD j 0)) = some (errSort n j) := fun j hj => by
    have z := List.all_eq_true.mp e2 j (List.mem_range.mpr hj)
    rw [Bool.and_eq_true, decide_eq_true_eq, decide_eq_true_eq] at z
    exact ⟨gl_of X G z.1, z.2⟩
  refine ⟨⟨⟨xc.ga, xc.gg, xc.exC, xc.hdC, e6, e7, e8, e9⟩, xc, e5, fun j hj => ?_, fun j hj => ⟨_, b j hj⟩, fun j hj => ?_, hn⟩, e10, (b 0 (by decide)).1, (b 1 (by decide)).1, (b 2 (by decide)).1⟩
  · have z := List.all_eq_true.mp e1 j (List.mem_range.mpr hj)
    split at z
    · rename_i T hz
      exact ⟨T, gl_of X G hz, of_decide_eq_true z⟩
    · cases z
  · have z := List.all_eq_true.mp e3 j (List.mem_range.mpr hj)
    rw [Bool.and_eq_true, decide_eq_true_eq, decide_eq_true_eq] at z
    exact ⟨no_of X G z.1, z.2⟩
theorem fi_mk {x qual : Str} {st : Stmt} {f : Addr} {od an : Option Addr} {sl : Array (Option Value)} {oc kV dc pm cd ct : Value}
    (l : K.lookup f = some ⟨oc, od, .func (PySem.W.fnOf x qual (defArgs st) (defBody st) (defScope st) .none kV dc pm an cd ct), sl⟩) (c : PySem.W.codeIn K cd qual = true) (k : PySem.W.keepIn K (.ref f) = true) : ∃ fd, Fun K x qual st f fd := ⟨_, fun_mk l c k⟩
end
end J
namespace J
open PySem PySem.Spec
open PyProof.Rows L2
section
variable {K : PySem.W.Frag} {h : Heap} {mg : Str → Option Value} {D : Addr} {n : Nat} {f : Str}
theorem excG_of {P : Program} {w : World} {base : Heap} {fI : Addr} {fd : FuncData} {nm q : Str} {B mk : String} {N : Addr} {bs bm : List Value} {sn : List Str} {sub : List Value} {ab : Bool} {col : Option Bool} {dd : Option Addr} {k0 k1 k2 k3 k5 : Option Value} {st : Stmt} {qual : Str} {p1 p2 p3 pos : Pos}
    (exC : PySem.W.subIn K (.ref D) (.type "BaseException") = some true) (no : PySem.W.findIn K (.ref D) f = some none) (at_ : mg (errName n) = some (.ref D)) (lk : K.lookup D = some (excClassObj nm q D N bs bm true sn sub ab col dd k0 k1 k2 k3 k5 mk)) (hB : (B = "ValueError" ∧ mk = "ValueError.__new__") ∨ (B = "LookupError" ∧ mk = "LookupError.__new__") ∨ (B = "ArithmeticError" ∧ mk = "ArithmeticError.__new__")) (hr : OG.ownLine B bm = true) (sa : PySem.W.findIn K (.ref D) "__setattr__" = some (some (.builtin "object.__setattr__")))
    (ty : PySem.W.typeIn K (.ref D) = some (.type "type")) (kC : PySem.W.keepIn K (.ref D) = true) (iC : PySem.W.findIn K (.ref D) "__init__" = some (some (.ref fI))) (tI : PySem.W.typeIn K (.ref fI) = some (.type "function")) (F : Fun K "__init__" qual st fI fd) (Sc : FnScope ["self", f] ["self", f] (defScope st))
    (hb : defBody st = [.Assign [.Attribute (.Name "self" p1) f p2] (.Name f p3) pos]) (hv : Vis (defScope st) f) (hv0 : Vis (defScope st) "self") (hbi : ∀ (kV doc pm : Value) (an : Option Addr) (cdv ct : Value) (us : List Value), us.length = 2 → bindArgs (PySem.W.fnOf "__init__" qual (defArgs st) (defBody st) (defScope st) .none kV doc pm an cdv ct) ⟨us, []⟩ = pure (([("self" : Str), f]).zip us)) (hd : (f == ("__debug__" : Str)) = false) (hcd : (f == ("__classdict__" : Str)) = false) : ExcG P w K mg base (errName n) D f := by
  obtain ⟨U, ob⟩ := OG.under_of hB hr
  have oe : OexG K D := ⟨⟨nm, q, N, bs, bm, sn, sub, ab, col, dd, k0, k1, k2, k3, k5, mk, lk, U, ob⟩, sa, exC, ty, kC⟩
  exact ⟨oe, at_, no, fI, fd, iC, tI, okXG F Sc oe no hb hv hv0 hd hcd, F.binds hbi⟩
end
end J
namespace J
open PySem PySem.Spec
open PyProof.Rows L2
section
variable {K : PySem.W.Frag} {h : Heap} {mg : Str → Option Value} {D U0 U1 U2 : Addr} {n : Nat} {f : Str}
theorem err0_of (X : K.In h) (G : h.Ns mainGlobals mg) (e : errOk K D n f U0 U1 U2 = true) (hn : Err0At n) :
    Err0 K mg D n ∧ PySem.W.exmAny K (.ref D) [.ref U0, .ref U1, .ref U2] = some true := by
  unfold errOk at e
  simp only [Bool.and_eq_true, decide_eq_true_eq] at e
  obtain ⟨⟨⟨⟨⟨⟨⟨⟨⟨e1, e2⟩, e3⟩, e4⟩, e5⟩, e6⟩, e7⟩, e8⟩, e9⟩, e10⟩ := e
  have xc := xfB_ok e4
  have b : ∀ j, j < 3 → mg (baseNs.getD j Str.empty) = some (.ref ([U0, U1, U2].getD j 0)) ∧ PySem.W.kitOne K (.ref D) (.ref ([U0, U1, U2].getD j 0)) = some (errSort n j) := fun j hj => by
    have z := List.all_eq_true.mp e2 j (List.mem_range.mpr hj)
    rw [Bool.and_eq_true, decide_eq_true_eq, decide_eq_true_eq] at z
    exact ⟨gl_of X G z.1, z.2⟩
  refine ⟨⟨⟨xc.ga, xc.gg, xc.exC, xc.hdC, e6, e7, e8, e9⟩, xc, fun j hj => ?_, fun j hj => ⟨_, b j hj⟩, fun j hj => ?_, hn⟩, e10⟩
  · have z := List.all_eq_true.mp e1 j (List.mem_range.mpr hj)
    split at z
    · rename_i T hz
      exact ⟨T, gl_of X G hz, of_decide_eq_true z⟩
    · cases z
  · have z := List.all_eq_true.mp e3 j (List.mem_range.mpr hj)
    rw [Bool.and_eq_true, decide_eq_true_eq, decide_eq_true_eq] at z
    exact ⟨no_of X G z.1, z.2⟩
end
end J
namespace J
open PySem PySem.Spec
open PyProof.Rows L2
theorem scI8 : FnScope ["self", "most"] ["self", "most"] (defScope sTooLongInit) := ⟨rfl, rfl, rfl, by decide +kernel, rfl, by decide +kernel, by decide +kernel⟩
theorem end_of {P : Program} {w : World} {K : PySem.W.Frag} {h : Heap} {mg : Str → Option Value} {fa C U0 U1 U2 D8 fI8 D9 : Addr}
    {nm8 qn8 : Str} {N8 : Addr} {bs8 bm8 : List Value} {sn8 : List Str} {sub8 : List Value} {ab8 : Bool} {col8 : Option Bool} {dd8 : Option Addr} {ka8 kb8 kc8 kd8 ke8 : Option Value}
    (X : K.In h) (G : h.Ns mainGlobals mg) (hfa : mg "law" = some (.ref fa)) (aC : PySem.W.nsIn K mainGlobals "Book" = some (some (.ref C))) (aU0 : PySem.W.nsIn K mainGlobals "NotRight" = some (some (.ref U0))) (aU1 : PySem.W.nsIn K mainGlobals "NotThere" = some (some (.ref U1))) (aU2 : PySem.W.nsIn K mainGlobals "CannotBe" = some (some (.ref U2)))
    (pg : PySem.W.plainGet K C Str.empty = true)
    (hd : PySem.W.hasDictIn K C = true)
    (po : PySem.W.plainOver K C = true)
    (sa : PySem.W.findIn K (.ref C) "__setattr__" = some (some (.builtin "object.__setattr__")))
    (nK : PySem.W.findIn K (.ref C) "kept" = some none)
    (mk : PySem.W.makesIn K C = true)
    (kc : PySem.W.keepIn K (.ref C) = true)
    (iha : PySem.W.findIn K (.ref C) "__class__" = some (some (.builtin "object.__class__")))
    (ihn : PySem.W.specialIn K (.builtin "object.__class__") "__get__" = some (some (.builtin "getset_descriptor.__get__")))
    (iht : PySem.W.takesIn K (.builtin "object.__class__") = some true)
    (ihm : PySem.W.mroIn K C (.type "object") = some true)
    {R : Addr} (aR : PySem.W.nsIn K mainGlobals "Row" = some (some (.ref R)))
    (pgR : PySem.W.plainGet K R Str.empty = true)
    (hdR : PySem.W.hasDictIn K R = true)
    (poR : PySem.W.plainOver K R = true)
    (saR : PySem.W.findIn K (.ref R) "__setattr__" = some (some (.builtin "object.__setattr__")))
    (mkR : PySem.W.makesIn K R = true)
    (kcR : PySem.W.keepIn K (.ref R) = true)
    (f0R : PySem.W.findIn K (.ref R) "source" = some none)
    (f1R : PySem.W.findIn K (.ref R) "called" = some none)
    (f2R : PySem.W.findIn K (.ref R) "pieces" = some none)
    (f3R : PySem.W.findIn K (.ref R) "held" = some none)
    (f4R : PySem.W.findIn K (.ref R) "behind" = some none)
    (f5R : PySem.W.findIn K (.ref R) "told" = some none)
    (f6R : PySem.W.findIn K (.ref R) "whole" = some none)
    (bR : mg "repr" = none) (bI : mg "isinstance" = none)
    (aD8 : PySem.W.nsIn K mainGlobals "TooLong" = some (some (.ref D8))) (ok8 : errOk K D8 8 "most" U0 U1 U2 = true)
    (ox8 : K.lookup D8 = some (excClassObj nm8 qn8 D8 N8 bs8 bm8 true sn8 sub8 ab8 col8 dd8 ka8 kb8 kc8 kd8 ke8 "ArithmeticError.__new__")) (rv8 : OG.ownLine "ArithmeticError" bm8 = true) (ts8 : PySem.W.findIn K (.ref D8) "__setattr__" = some (some (.builtin "object.__setattr__"))) (ty8 : PySem.W.typeIn K (.ref D8) = some (.type "type")) (kp8 : PySem.W.keepIn K (.ref D8) = true)
    (iC8 : PySem.W.findIn K (.ref D8) "__init__" = some (some (.ref fI8))) (tI8 : PySem.W.typeIn K (.ref fI8) = some (.type "function")) (FI8 : ∃ fd, Fun K "__init__" "TooLong.__init__" sTooLongInit fI8 fd)
    (aD9 : PySem.W.nsIn K mainGlobals "IsOver" = some (some (.ref D9))) (ok9 : errOk K D9 9 "given" U0 U1 U2 = true) (xi9 : PySem.W.excIn K D9 (OG.lineOf "ArithmeticError") "ArithmeticError.__new__" = true) (ty9 : PySem.W.typeIn K (.ref D9) = some (.type "type")) (kp9 : PySem.W.keepIn K (.ref D9) = true)
    (T : Bt mg)
    (longest : ∃ t, mg "LONGEST_NAME" = some (.int 8 t))
    (letters : ∃ t, mg "LETTERS" = some (.str M.letters t))
    (digits : ∃ t, mg "DIGITS" = some (.str M.digits t))
    (mlast : ∃ t, mg "MOST_LAST" = some (.int 4 t))
    (mfar : ∃ t, mg "MOST_FAR" = some (.int 4 t))
    (mclasses : ∃ t, mg "MOST_CLASSES" = some (.int 3 t))
    (mclauses : ∃ t, mg "MOST_CLAUSES" = some (.int 3 t))
    (mrounds : ∃ t, mg "MOST_ROUNDS" = some (.int 5 t))
    (mplans : ∃ t, mg "MOST_PLANS" = some (.int 4 t))
    (mbase : ∃ t, mg "MOST_BASE" = some (.int 4 t))
    (mpiece : ∃ t, mg "LONGEST_PIECE" = some (.int 4 t))
    (mpieces : ∃ t, mg "MOST_PIECES" = some (.int 12 t))
    (msigns : ∃ t, mg "MOST_SIGNS" = some (.int 1000 t))
    (d_is_integer : Df K mg "is_integer" sIsInteger)
    (d_is_name : Df K mg "is_name" sIsName)
    (d_is_piece : Df K mg "is_piece" sIsPiece)
    (d_is_goal : Df K mg "is_goal" sIsGoal)
    (d_last_of : Df K mg "last_of" sLastOf)
    (d_goal_span : Df K mg "goal_span" sGoalSpan)
    (d_read_digit : Df K mg "read_digit" sReadDigit)
    (d_read_class : Df K mg "read_class" sReadClass)
    (d_read_way : Df K mg "read_way" sReadWay)
    (d_put_clause : Df K mg "put_clause" sPutClause)
    (d_read_clause : Df K mg "read_clause" sReadClause)
    (d_share_place : Df K mg "share_place" sSharePlace)
    (d_fit_together : Df K mg "fit_together" sFitTogether)
    (d_read_round : Df K mg "read_round" sReadRound)
    (d_can_stand : Df K mg "can_stand" sCanStand)
    (d_are_rounds : Df K mg "are_rounds" sAreRounds)
    (d_is_plan : Df K mg "is_plan" sIsPlan)
    (d_check_plans : Df K mg "check_plans" sCheckPlans)
    (d_check_book : Df K mg "check_book" sCheckBook)
    (d_plan_of : Df K mg "plan_of" sPlanOf)
    (d_read_book : Df K mg "read_book" sReadBook)
    (d_check_pieces : Df K mg "check_pieces" sCheckPieces)
    (d_goal_texts : Df K mg "goal_texts" sGoalTexts)
    (d_next_text : Df K mg "next_text" sNextText)
    (d_check_lengths : Df K mg "check_lengths" sCheckLengths)
    (d_next_texts : Df K mg "next_texts" sNextTexts)
    (d_led_texts : Df K mg "led_texts" sLedTexts)
    (d_law_cell : Df K mg "_law_cell" sLCell)
    (d_law_purse : Df K mg "_law_purse" sLPurse)
    (d_law_draw : Df K mg "_law_draw" sLDraw)
    (d_law_pick : Df K mg "_law_pick" sLPick)
    (d_law_tag : Df K mg "_law_tag" sLTag)
    (d_law_tags : Df K mg "_law_tags" sLTags)
    (d_law_goal : Df K mg "_law_goal" sLGoal)
    (d_law_overs : Df K mg "_law_overs" sLOvers)
    (d_law_clause : Df K mg "_law_clause" sLClause)
    (d_law_line : Df K mg "_law_line" sLLine)
    (d_law_aim : Df K mg "_law_aim" sLAim)
    (d_law_told : Df K mg "_law_told" sLTold)
    (d_law_error : Df K mg "_law_error" sLError)
    (d_law_caught : Df K mg "_law_caught" sLCaught)
    (d_law_pieces : Df K mg "_law_pieces" sLPieces)
    (d_law_due : Df K mg "_law_due" sLDue)
    (d_law_spot : Df K mg "_law_spot" sLSpot)
    (d_law_noted : Df K mg "_law_noted" sLNoted)
    (d_law_round_led : Df K mg "_law_round_led" sLRoundLed)
    (d_law_called : Df K mg "_law_called" sLCalled)
    (d_law_rows_led : Df K mg "_law_rows_led" sLRowsLed)
    (d_law_call : Df K mg "_law_call" sLCall)
    (d_law_by_hand : Df K mg "_law_by_hand" sLByHand)
    (d_law_right : Df K mg "_law_right" sLRight)
    (d_law_cleared : Df K mg "_law_cleared" sLCleared)
    (d_law : Df K mg "law" sLaw)
    (m_init : MFun K C "__init__" "Book.__init__" sInit)
    (m_find_plan : MFun K C "find_plan" "Book.find_plan" sFindPlan)
    (m_plan : MFun K C "plan" "Book.plan" sPlan)
    (m_names : PFun K C "names" "Book.names" sNames)
    (m_plans : PFun K C "plans" "Book.plans" sPlans)
    (m_initR : MFun K R "__init__" "Row.__init__" sRowInit)
    (m_afterR : MFun K R "after" "Row.after" sRowAfter)
    (m_lastR : MFun K R "last" "Row.last" sRowLast)
    (m_wordsR : PFun K R "words" "Row.words" sRowWords)
    (m_doneR : PFun K R "done" "Row.done" sRowDone)
    (m_is_overR : PFun K R "is_over" "Row.is_over" sRowIsOver)
    (t_law_by_hand : (lamTab K "_law_by_hand").isSome = true)
    (t_law_right : (lamTab K "_law_right").isSome = true)
    (t_law_cleared : (lamTab K "_law_cleared").isSome = true)
    : ∃ fd : FuncData, (∀ (t : Shared) (u : Value), BindsTo t fd ⟨[u], []⟩ [("_law_script", u)]) ∧ ∀ bs : Heap, K.In bs → bs.Ns mainGlobals mg → (∀ y ∈ lamDefs, (lamTab K y).isSome = true → LamB K mg bs y) → FnG P w K mg bs 116 fa fd ["_law_script"] (spLawT K) := by
  obtain ⟨f, fd, F, hm⟩ := d_law.ex
  have e := hfa.symm.trans hm
  cases e
  refine ⟨fd, ?_, fun bs inB nsB lamB => ?_⟩
  · obtain ⟨oc, od, kV, doc, pm, an, cdv, ct, osl, rfl, lk, hcd⟩ := F.ex
    exact fun t u => .of_eq rfl
  · have U : Gf mg := ⟨T, longest, letters, digits, mlast, mfar, mclasses, mclauses, mrounds, mplans, mbase⟩
    have atR : mg "Row" = some (.ref R) := gl_of X G aR
    have kR : KlR K R := ⟨⟨pgR, hdR, poR, saR⟩, f0R, f1R, f2R, f3R, f4R, f5R, f6R⟩
    have at_ : mg "Book" = some (.ref C) := gl_of X G aC
    have k : Kl K C := ⟨⟨pg, hd, po, sa⟩, nK⟩
    obtain ⟨E8, hm8, m1, m2, m3⟩ := errC_of X G ok8 (by decide)
    obtain ⟨fdI8, FI8⟩ := FI8
    have x8 : ExcG P w K mg bs "TooLong" D8 "most" := excG_of (n := 8) E8.xfc.exC E8.no (gl_of X G aD8) ox8 (Or.inr (Or.inr ⟨rfl, rfl⟩)) rv8 ts8 ty8 kp8 iC8 tI8 FI8 scI8 rfl (Or.inl rfl) (Or.inl rfl) (fun _ _ _ _ _ _ us hl => len2 us hl fun _ _ => rfl) (by decide) (by decide)
    obtain ⟨E9, hm9⟩ := err0_of X G ok9 rfl
    have x9 : Exc0 K mg "IsOver" D9 := ⟨xi9, gl_of X G aD9, kp9, E9.xfc.exC, ty9⟩
    obtain ⟨fe, ge, Fe, me⟩ := d_law_error.ex
    have Y : Cau P w K mg bs U0 U1 U2 := ⟨d_law_caught, bR, ⟨fe, ge, ((okErr bI bR Fe).or (okErr0 bI Fe)), me, Fe.kp, Fe.binds fun _ _ _ _ _ _ us hl => len1 us hl fun _ => rfl⟩, m1, m2, m3⟩
    have L_law_by_hand := lamB "_law_by_hand" (by decide) t_law_by_hand
    have L_law_right := lamB "_law_right" (by decide) t_law_right
    have L_law_cleared := lamB "_law_cleared" (by decide) t_law_cleared
    have ic : C8.InsC K C := ⟨⟨pg, hd, po, sa⟩, iha, ihn, iht, ihm, if_pos (beq_self_eq_true _)⟩
    have a_is_integer := cIsInteger (P := P) (w := w) (base := bs) U d_is_integer
    have a_is_name := cIsName (P := P) (w := w) (base := bs) U d_is_name
    have a_is_piece := cPc (P := P) (w := w) (base := bs) U mpiece d_is_piece
    have a_is_goal := cIsGoal (P := P) (w := w) (base := bs) U d_is_goal
    have a_last_of := cLo (P := P) (w := w) (base := bs) T d_last_of
    have a_goal_span := cGs T a_last_of d_goal_span
    have a_read_digit := cReadDigit (P := P) (w := w) (base := bs) U d_read_digit
    have a_read_class := cReadClass U a_read_digit d_read_class
    have a_read_way := cReadWay U a_read_digit d_read_way
    have a_put_clause := cPutClause (P := P) (w := w) (base := bs) d_put_clause
    have a_read_clause := cReadClause U a_read_class a_read_way a_put_clause a_is_name d_read_clause
    have a_share_place := cSharePlace (P := P) (w := w) (base := bs) U d_share_place
    have a_fit_together := cFit U a_share_place d_fit_together
    have a_read_round := cReadRound U a_read_clause a_fit_together d_read_round
    have a_can_stand := cCanStand a_read_round d_can_stand
    have a_are_rounds := cAreRounds U a_read_round d_are_rounds
    have a_is_plan := cIsPlan U a_is_integer a_is_name a_is_goal a_are_rounds d_is_plan
    have a_check_plans := cCheckPlans U a_is_plan a_can_stand d_check_plans
    have a_check_book := cCkB (P := P) (w := w) (base := bs) ic T at_ d_check_book
    have a_check_pieces := cCp T mpieces a_is_piece d_check_pieces
    have a_goal_texts := cGtx T a_goal_span d_goal_texts
    have a_next_text := cNt (P := P) (w := w) (base := bs) T d_next_text
    have a_check_lengths := cCl T msigns x8 d_check_lengths
    have a_law_cell := cCell (P := P) (w := w) (base := bs) T d_law_cell
    have a_law_purse := cPurse (P := P) (w := w) (base := bs) T d_law_purse
    have a_law_draw := cDraw (P := P) (w := w) (base := bs) T d_law_draw
    have a_law_pick := cPick T a_law_draw d_law_pick
    have a_law_tag := cTag T a_law_draw a_law_pick d_law_tag
    have a_law_tags := cTags T a_law_tag d_law_tags
    have a_law_goal := cGoal T a_law_draw d_law_goal
    have a_law_overs := cOvers T a_law_draw d_law_overs
    have a_law_clause := cClause (P := P) (w := w) (base := bs) T d_law_clause
    have a_law_line := cLnT T a_law_clause d_law_line
    have a_law_aim := cAim (P := P) (w := w) (base := bs) T d_law_aim
    have a_law_told := cTold T a_law_aim a_law_line d_law_told
    have a_law_pieces := cPs T a_law_draw a_law_pick d_law_pieces
    have a_law_due := cDs (P := P) (w := w) (base := bs) T d_law_due
    have a_law_spot := cSp (P := P) (w := w) (base := bs) T d_law_spot
    have a_law_noted := cNo (P := P) (w := w) (base := bs) T d_law_noted
    have a_law_call := cC27 (P := P) (w := w) (base := bs) T d_law_call
    obtain ⟨f0, g0, F0, b0, i0⟩ := m_init.ex
    obtain ⟨p3, f3, g3, F3, o3⟩ := m_names.ex
    obtain ⟨f4, g4, F4, b4, i4⟩ := m_find_plan.ex
    obtain ⟨f5, g5, F5, b5, i5⟩ := m_plan.ex
    obtain ⟨p2, f2, g2, F2, o2⟩ := m_plans.ex
    have n0 : Mak P w K mg bs "Book" C "kept" 8 ["self", "plans"] M.Good := ⟨f0, g0, okInit (P := P) (w := w) (base := bs) F0 k a_check_plans, ⟨mk, b0, i0, kc⟩, at_, F0.binds fun _ _ _ _ _ _ us hl => len2 us hl fun _ _ => rfl⟩
    have n3 : Prp P w K mg bs C "names" 1 (cnNames C) := ⟨p3, f3, g3, okNames T F3 k, o3, F3.binds fun _ _ _ _ _ _ us hl => len1 us hl fun _ => rfl⟩
    have n3' : NmF P w K mg bs C := ⟨p3, f3, g3, okNamesF T F3 k, o3, F3.binds fun _ _ _ _ _ _ us hl => len1 us hl fun _ => rfl⟩
    have n4 : Mth P w K mg bs C "find_plan" 3 ["self", "name"] (cnFindPlan C) := ⟨f4, g4, okFindPlan T F4 k n3 n3', ⟨b4, i4, F4.kp⟩, F4.binds fun _ _ _ _ _ _ us hl => len2 us hl fun _ _ => rfl⟩
    have n5 : Mth P w K mg bs C "plan" 4 ["self", "name"] (cnPlan C) := ⟨f5, g5, okPlan F5 k n4, ⟨b5, i5, F5.kp⟩, F5.binds fun _ _ _ _ _ _ us hl => len2 us hl fun _ _ => rfl⟩
    have n2 : Prp P w K mg bs C "plans" 1 (cnPlans C) := ⟨p2, f2, g2, okPlans F2 k, o2, F2.binds fun _ _ _ _ _ _ us hl => len1 us hl fun _ => rfl⟩
    have a_plan_of := cPlO k n5 a_check_book d_plan_of
    have a_read_book := cRb k n2 a_read_round d_read_book
    have a_goal_textsL := cGtL T a_goal_span d_goal_texts
    obtain ⟨_, a_next_texts⟩ := cLN T msigns x8 a_goal_textsL a_next_text a_check_lengths d_next_texts d_led_texts GT.fuel
    obtain ⟨e0, h0, E0, q0, j0⟩ := m_initR.ex
    obtain ⟨r4, e4, h4, E4, s4⟩ := m_wordsR.ex
    obtain ⟨r5, e5, h5, E5, s5⟩ := m_doneR.ex
    obtain ⟨r6, e6, h6, E6, s6⟩ := m_is_overR.ex
    obtain ⟨ea, ha, EA, qa, ja⟩ := m_afterR.ex
    obtain ⟨el, hl, EL, ql, jl⟩ := m_lastR.ex
    have xr := okRow (P := P) (w := w) (base := bs) (C := C) T E0 kR a_plan_of a_check_pieces a_goal_texts
    have Mr : MakF P w K mg bs "Row" R 6 ["self", "book", "name", "pieces"] (conRow C) := ⟨e0, h0, xr, ⟨mkR, q0, j0, kcR⟩, atR, E0.binds fun _ _ _ _ _ _ us hl => len4 us hl fun _ _ _ _ => rfl⟩
    have Po : Prp P w K mg bs R "is_over" 1 (cnOver R) := ⟨r6, e6, h6, okRO E6 kR, s6, E6.binds fun _ _ _ _ _ _ us hl => len1 us hl fun _ => rfl⟩
    have Ma : MthX P w K mg bs R "after" (2 * GT.fuel + 6) ["self"] (cnAf C R D8 D9) := ⟨ea, ha, okAf T EA kR msigns x9 Po a_read_book a_next_texts Mr, ⟨qa, ja, EA.kp⟩, EA.binds fun _ _ _ _ _ _ us hl => len1 us hl fun _ => rfl⟩
    have Ml : MthX P w K mg bs R "last" (2 * GT.fuel + 7) ["self"] (cnLa C R D8) := ⟨el, hl, okLa (Co := D9) EL kR Po Ma, ⟨ql, jl, EL.kp⟩, EL.binds fun _ _ _ _ _ _ us hl => len1 us hl fun _ => rfl⟩
    have B : Bk27 P w K mg bs C R D8 D9 := ⟨k, n0, Mr, kR,
      ⟨r4, e4, h4, okRW E4 kR, s4, E4.binds fun _ _ _ _ _ _ us hl => len1 us hl fun _ => rfl⟩,
      ⟨r5, e5, h5, okRD E5 kR, s5, E5.binds fun _ _ _ _ _ _ us hl => len1 us hl fun _ => rfl⟩,
      Po, Ma, Ml⟩
    have Y' : CauR P w K mg bs U0 U1 U2 := ⟨Y.df, Y.rep, Y.tel, Y.m1, Y.m2, Y.m3⟩
    obtain ⟨_, a_rl⟩ := cLW T a_law_due a_law_noted a_law_spot d_law_round_led d_law_called GT.fuel
    have a_rw := cRw T (k := 107) (by decide) a_law_due a_rl d_law_rows_led
    have a_hand := cHd T a_law_pick a_law_tags a_law_call a_law_told Y' B E8 hm8 inB nsB L_law_by_hand d_law_by_hand
    have a_clr := cCl27 T a_law_tags a_law_call a_law_told Y' B E8 hm8 inB nsB L_law_cleared d_law_cleared
    have a_right := cRt T a_law_draw a_law_pick a_law_tags a_law_goal a_law_overs a_law_call a_law_told a_law_pieces a_rw Y' B E8 hm8 E9 hm9 inB nsB L_law_right d_law_right
    exact gLw27 T a_law_cell a_law_purse a_right a_hand a_clr F
end J
section
open PySem PySem.W PyProof.Rows
open_top hd for PySem.Challenge.rw_joinrounds_k27_words_of_many_letters
end
open PySem PySem.W PyProof.Rows
set_option maxRecDepth 100000 in
set_option maxHeartbeats 0 in
theorem PySem.Challenge.cw_joinrounds_k27_words_of_many_letters_holds : PySem.Challenge.rw_joinrounds_k27_words_of_many_letters.Holds :=
  hd (by
  k_fill
  refine J.walkT (l := PySem.Challenge.rw_joinrounds_k27_words_of_many_letters) (n := 63) (k := 116) (x := "_law_script") rfl (by decide) rfl ⟨rfl, by decide, by decide⟩ (fun w h Y => J.tabF_of Y (by kernel_rfl)) ?O ?F
  case O =>
    intro w
    kernel_rfl
  case F =>
    intro w mg fa h KX G hmg
    refine' J.end_of KX G hmg ?aC ?aU0 ?aU1 ?aU2 ?pg ?hd ?po ?sa ?nK ?mk ?kc ?iha ?ihn ?iht ?ihm ?aR ?pgR ?hdR ?poR ?saR ?mkR ?kcR ?f0R ?f1R ?f2R ?f3R ?f4R ?f5R ?f6R (J.no_of KX G ?bR) (J.no_of KX G ?bI) ?aD8 ?ok8 ?ox8 ?rv8 ?ts8 ?ty8 ?kp8 ?iC8 ?tI8 (J.fi_mk ?li8 ?ci8 ?ki8) ?aD9 ?ok9 ?xi9 ?ty9 ?kp9 ⟨J.no_of KX G ?b0, J.no_of KX G ?b1, J.no_of KX G ?b2, J.no_of KX G ?b3, J.no_of KX G ?b4, J.no_of KX G ?b5, J.no_of KX G ?b6, J.no_of KX G ?b7, J.no_of KX G ?b8, J.no_of KX G ?b9, J.no_of KX G ?b10, J.no_of KX G ?b11, J.no_of KX G ?b12, J.no_of KX G ?b13, J.no_of KX G ?b14, J.no_of KX G ?b15⟩ (J.gx_of KX G ?g0) (J.gx_of KX G ?g1) (J.gx_of KX G ?g2) (J.gx_of KX G ?g3) (J.gx_of KX G ?g4) (J.gx_of KX G ?g5) (J.gx_of KX G ?g6) (J.gx_of KX G ?g7) (J.gx_of KX G ?g8) (J.gx_of KX G ?g9) (J.gx_of KX G ?g10) (J.gx_of KX G ?g11) (J.gx_of KX G ?g12) (J.df_mk KX G ?a0 ?l0 ?c0 ?k0) (J.df_mk KX G ?a1 ?l1 ?c1 ?k1) (J.df_mk KX G ?a2 ?l2 ?c2 ?k2) (J.df_mk KX G ?a3 ?l3 ?c3 ?k3) (J.df_mk KX G ?a4 ?l4 ?c4 ?k4) (J.df_mk KX G ?a5 ?l5 ?c5 ?k5) (J.df_mk KX G ?a6 ?l6 ?c6 ?k6) (J.df_mk KX G ?a7 ?l7 ?c7 ?k7) (J.df_mk KX G ?a8 ?l8 ?c8 ?k8) (J.df_mk KX G ?a9 ?l9 ?c9 ?k9) (J.df_mk KX G ?a10 ?l10 ?c10 ?k10) (J.df_mk KX G ?a11 ?l11 ?c11 ?k11) (J.df_mk KX G ?a12 ?l12 ?c12 ?k12) (J.df_mk KX G ?a13 ?l13 ?c13 ?k13) (J.df_mk KX G ?a14 ?l14 ?c14 ?k14) (J.df_mk KX G ?a15 ?l15 ?c15 ?k15) (J.df_mk KX G ?a16 ?l16 ?c16 ?k16) (J.df_mk KX G ?a17 ?l17 ?c17 ?k17) (J.df_mk KX G ?a18 ?l18 ?c18 ?k18) (J.df_mk KX G ?a19 ?l19 ?c19 ?k19) (J.df_mk KX G ?a20 ?l20 ?c20 ?k20) (J.df_mk KX G ?a21 ?l21 ?c21 ?k21) (J.df_mk KX G ?a22 ?l22 ?c22 ?k22) (J.df_mk KX G ?a23 ?l23 ?c23 ?k23) (J.df_mk KX G ?a24 ?l24 ?c24 ?k24) (J.df_mk KX G ?a25 ?l25 ?c25 ?k25) (J.df_mk KX G ?a26 ?l26 ?c26 ?k26) (J.df_mk KX G ?a27 ?l27 ?c27 ?k27) (J.df_mk KX G ?a28 ?l28 ?c28 ?k28) (J.df_mk KX G ?a29 ?l29 ?c29 ?k29) (J.df_mk KX G ?a30 ?l30 ?c30 ?k30) (J.df_mk KX G ?a31 ?l31 ?c31 ?k31) (J.df_mk KX G ?a32 ?l32 ?c32 ?k32) (J.df_mk KX G ?a33 ?l33 ?c33 ?k33) (J.df_mk KX G ?a34 ?l34 ?c34 ?k34) (J.df_mk KX G ?a35 ?l35 ?c35 ?k35) (J.df_mk KX G ?a36 ?l36 ?c36 ?k36) (J.df_mk KX G ?a37 ?l37 ?c37 ?k37) (J.df_mk KX G ?a38 ?l38 ?c38 ?k38) (J.df_mk KX G ?a39 ?l39 ?c39 ?k39) (J.df_mk KX G ?a40 ?l40 ?c40 ?k40) (J.df_mk KX G ?a41 ?l41 ?c41 ?k41) (J.df_mk KX G ?a42 ?l42 ?c42 ?k42) (J.df_mk KX G ?a43 ?l43 ?c43 ?k43) (J.df_mk KX G ?a44 ?l44 ?c44 ?k44) (J.df_mk KX G ?a45 ?l45 ?c45 ?k45) (J.df_mk KX G ?a46 ?l46 ?c46 ?k46) (J.df_mk KX G ?a47 ?l47 ?c47 ?k47) (J.df_mk KX G ?a48 ?l48 ?c48 ?k48) (J.df_mk KX G ?a49 ?l49 ?c49 ?k49) (J.df_mk KX G ?a50 ?l50 ?c50 ?k50) (J.df_mk KX G ?a51 ?l51 ?c51 ?k51) (J.df_mk KX G ?a52 ?l52 ?c52 ?k52) (J.mf_mk ?a53 ?i53 ?l53 ?c53 ?k53) (J.mf_mk ?a54 ?i54 ?l54 ?c54 ?k54) (J.mf_mk ?a55 ?i55 ?l55 ?c55 ?k55) (J.pf_mk ?a56 ?pg56 ?t56 ?r56 ?l56 ?c56 ?k56) (J.pf_mk ?a57 ?pg57 ?t57 ?r57 ?l57 ?c57 ?k57) (J.mf_mk ?a58 ?i58 ?l58 ?c58 ?k58) (J.mf_mk ?a59 ?i59 ?l59 ?c59 ?k59) (J.mf_mk ?a60 ?i60 ?l60 ?c60 ?k60) (J.pf_mk ?a61 ?pg61 ?t61 ?r61 ?l61 ?c61 ?k61) (J.pf_mk ?a62 ?pg62 ?t62 ?r62 ?l62 ?c62 ?k62) (J.pf_mk ?a63 ?pg63 ?t63 ?r63 ?l63 ?c63 ?k63) ?t_law_by_hand ?t_law_right ?t_law_cleared
    (case aC => k_is); (case aU0 => k_is); (case aU1 => k_is); (case aU2 => k_is); (case pg => k_is); (case hd => k_is)
    (case po => k_is); (case sa => k_is); (case nK => k_is); (case mk => k_is); (case kc => k_is); (case iha => k_is)
    (case ihn => k_is); (case iht => k_is); (case ihm => k_is); (case aR => k_is); (case pgR => k_is); (case hdR => k_is)
    (case poR => k_is); (case saR => k_is); (case mkR => k_is); (case kcR => k_is); (case f0R => k_is); (case f1R => k_is)
    (case f2R => k_is); (case f3R => k_is); (case f4R => k_is); (case f5R => k_is); (case f6R => k_is); (case bR => k_is)
    (case bI => k_is); (case aD8 => k_is); (case ox8 => k_is); (case ts8 => k_is); (case ty8 => k_is); (case kp8 => k_is)
    (case iC8 => k_is); (case tI8 => k_is); (case li8 => k_is); (case ci8 => k_is); (case ki8 => k_is); (case aD9 => k_is)
    (case ty9 => k_is); (case kp9 => k_is); (case b0 => k_is); (case b1 => k_is); (case b2 => k_is); (case b3 => k_is)
    (case b4 => k_is); (case b5 => k_is); (case b6 => k_is); (case b7 => k_is); (case b8 => k_is); (case b9 => k_is)
    (case b10 => k_is); (case b11 => k_is); (case b12 => k_is); (case b13 => k_is); (case b14 => k_is); (case b15 => k_is)
    (case g0 => k_is); (case g1 => k_is); (case g2 => k_is); (case g3 => k_is); (case g4 => k_is); (case g5 => k_is)
    (case g6 => k_is); (case g7 => k_is); (case g8 => k_is); (case g9 => k_is); (case g10 => k_is); (case g11 => k_is)
    (case g12 => k_is); (case a0 => k_is); (case l0 => k_is); (case c0 => k_is); (case k0 => k_is); (case a1 => k_is)
    (case l1 => k_is); (case c1 => k_is); (case k1 => k_is); (case a2 => k_is); (case l2 => k_is); (case c2 => k_is)
    (case k2 => k_is); (case a3 => k_is); (case l3 => k_is); (case c3 => k_is); (case k3 => k_is); (case a4 => k_is)
    (case l4 => k_is); (case c4 => k_is); (case k4 => k_is); (case a5 => k_is); (case l5 => k_is); (case c5 => k_is)
    (case k5 => k_is); (case a6 => k_is); (case l6 => k_is); (case c6 => k_is); (case k6 => k_is); (case a7 => k_is)
    (case l7 => k_is); (case c7 => k_is); (case k7 => k_is); (case a8 => k_is); (case l8 => k_is); (case c8 => k_is)
    (case k8 => k_is); (case a9 => k_is); (case l9 => k_is); (case c9 => k_is); (case k9 => k_is); (case a10 => k_is)
    (case l10 => k_is); (case c10 => k_is); (case k10 => k_is); (case a11 => k_is); (case l11 => k_is); (case c11 => k_is)
    (case k11 => k_is); (case a12 => k_is); (case l12 => k_is); (case c12 => k_is); (case k12 => k_is); (case a13 => k_is)
    (case l13 => k_is); (case c13 => k_is); (case k13 => k_is); (case a14 => k_is); (case l14 => k_is); (case c14 => k_is)
    (case k14 => k_is); (case a15 => k_is); (case l15 => k_is); (case c15 => k_is); (case k15 => k_is); (case a16 => k_is)
    (case l16 => k_is); (case c16 => k_is); (case k16 => k_is); (case a17 => k_is); (case l17 => k_is); (case c17 => k_is)
    (case k17 => k_is); (case a18 => k_is); (case l18 => k_is); (case c18 => k_is); (case k18 => k_is); (case a19 => k_is)
    (case l19 => k_is); (case c19 => k_is); (case k19 => k_is); (case a20 => k_is); (case l20 => k_is); (case c20 => k_is)
    (case k20 => k_is); (case a21 => k_is); (case l21 => k_is); (case c21 => k_is); (case k21 => k_is); (case a22 => k_is)
    (case l22 => k_is); (case c22 => k_is); (case k22 => k_is); (case a23 => k_is); (case l23 => k_is); (case c23 => k_is)
    (case k23 => k_is); (case a24 => k_is); (case l24 => k_is); (case c24 => k_is); (case k24 => k_is); (case a25 => k_is)
    (case l25 => k_is); (case c25 => k_is); (case k25 => k_is); (case a26 => k_is); (case l26 => k_is); (case c26 => k_is)
    (case k26 => k_is); (case a27 => k_is); (case l27 => k_is); (case c27 => k_is); (case k27 => k_is); (case a28 => k_is)
    (case l28 => k_is); (case c28 => k_is); (case k28 => k_is); (case a29 => k_is); (case l29 => k_is); (case c29 => k_is)
    (case k29 => k_is); (case a30 => k_is); (case l30 => k_is); (case c30 => k_is); (case k30 => k_is); (case a31 => k_is)
    (case l31 => k_is); (case c31 => k_is); (case k31 => k_is); (case a32 => k_is); (case l32 => k_is); (case c32 => k_is)
    (case k32 => k_is); (case a33 => k_is); (case l33 => k_is); (case c33 => k_is); (case k33 => k_is); (case a34 => k_is)
    (case l34 => k_is); (case c34 => k_is); (case k34 => k_is); (case a35 => k_is); (case l35 => k_is); (case c35 => k_is)
    (case k35 => k_is); (case a36 => k_is); (case l36 => k_is); (case c36 => k_is); (case k36 => k_is); (case a37 => k_is)
    (case l37 => k_is); (case c37 => k_is); (case k37 => k_is); (case a38 => k_is); (case l38 => k_is); (case c38 => k_is)
    (case k38 => k_is); (case a39 => k_is); (case l39 => k_is); (case c39 => k_is); (case k39 => k_is); (case a40 => k_is)
    (case l40 => k_is); (case c40 => k_is); (case k40 => k_is); (case a41 => k_is); (case l41 => k_is); (case c41 => k_is)
    (case k41 => k_is); (case a42 => k_is); (case l42 => k_is); (case c42 => k_is); (case k42 => k_is); (case a43 => k_is)
    (case l43 => k_is); (case c43 => k_is); (case k43 => k_is); (case a44 => k_is); (case l44 => k_is); (case c44 => k_is)
    (case k44 => k_is); (case a45 => k_is); (case l45 => k_is); (case c45 => k_is); (case k45 => k_is); (case a46 => k_is)
    (case l46 => k_is); (case c46 => k_is); (case k46 => k_is); (case a47 => k_is); (case l47 => k_is); (case c47 => k_is)
    (case k47 => k_is); (case a48 => k_is); (case l48 => k_is); (case c48 => k_is); (case k48 => k_is); (case a49 => k_is)
    (case l49 => k_is); (case c49 => k_is); (case k49 => k_is); (case a50 => k_is); (case l50 => k_is); (case c50 => k_is)
    (case k50 => k_is); (case a51 => k_is); (case l51 => k_is); (case c51 => k_is); (case k51 => k_is); (case a52 => k_is)
    (case l52 => k_is); (case c52 => k_is); (case k52 => k_is); (case a53 => k_is); (case i53 => k_is); (case l53 => k_is)
    (case c53 => k_is); (case k53 => k_is); (case a54 => k_is); (case i54 => k_is); (case l54 => k_is); (case c54 => k_is)
    (case k54 => k_is); (case a55 => k_is); (case i55 => k_is); (case l55 => k_is); (case c55 => k_is); (case k55 => k_is)
    (case a56 => k_is); (case pg56 => k_is); (case t56 => k_is); (case r56 => k_is); (case l56 => k_is); (case c56 => k_is)
    (case k56 => k_is); (case a57 => k_is); (case pg57 => k_is); (case t57 => k_is); (case r57 => k_is); (case l57 => k_is)
    (case c57 => k_is); (case k57 => k_is); (case a58 => k_is); (case i58 => k_is); (case l58 => k_is); (case c58 => k_is)
    (case k58 => k_is); (case a59 => k_is); (case i59 => k_is); (case l59 => k_is); (case c59 => k_is); (case k59 => k_is)
    (case a60 => k_is); (case i60 => k_is); (case l60 => k_is); (case c60 => k_is); (case k60 => k_is); (case a61 => k_is)
    (case pg61 => k_is); (case t61 => k_is); (case r61 => k_is); (case l61 => k_is); (case c61 => k_is); (case k61 => k_is)
    (case a62 => k_is); (case pg62 => k_is); (case t62 => k_is); (case r62 => k_is); (case l62 => k_is); (case c62 => k_is)
    (case k62 => k_is); (case a63 => k_is); (case pg63 => k_is); (case t63 => k_is); (case r63 => k_is); (case l63 => k_is)
    (case c63 => k_is); (case k63 => k_is)
    (case ok8 => kernel_rfl)
    (case rv8 => kernel_rfl)
    (case ok9 => kernel_rfl)
    (case xi9 => kernel_rfl)
    (case t_law_by_hand => kernel_rfl)
    (case t_law_right => kernel_rfl)
    (case t_law_cleared => kernel_rfl))
