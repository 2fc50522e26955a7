package tests

import (
	"math/rand/v2"
	"slices"
	"testing"

	"loop.example/g03221/impl"
)

// typesToCall returns types up to two steps, and types with parts that the rules replace.
func typesToCall(r *rand.Rand, y impl.Terminology) []impl.KinType {
	list := typesUpTo(1)
	for range 60 {
		list = append(list, typeWithParts(r, y.Rules), chanceType(r, 2), withoutAges(chanceType(r, 3)))
	}
	return list
}

// TestP5TermsDependOnTheNormalFormAlone: a type has the term of its normal form, and so has each type with the same normal form.
func TestP5TermsDependOnTheNormalFormAlone(t *testing.T) {
	r := newChance(82)
	reduced, called := 0, 0
	for _, y := range someTerminologies(t, r, 150) {
		known := map[string]string{}
		for _, k := range typesToCall(r, y) {
			form := impl.NormalForm(y.Rules, k)
			term, ok := impl.TermFor(y, k)
			formTerm, formOk := impl.TermFor(y, form)
			if term != formTerm || ok != formOk {
				t.Fatalf("%v has the term %q, and its normal form %v has %q, in %v", k, term, form, formTerm, y)
			}
			text := wantTypeText(impl.KinType{Ego: wantEgo(form), Steps: form.Steps})
			if other, ok := known[text]; ok && other != term {
				t.Fatalf("types with the normal form %s have the terms %q and %q, in %v", text, term, other, y)
			}
			known[text] = term
			if ok && !isSameType(form, k) {
				reduced++
			}
			if ok {
				called++
			}
		}
	}
	if reduced < 1000 || called < 3000 {
		t.Errorf("%d types have terms, %d of them are reduced", called, reduced)
	}
}

// TestP5TermsOfReplacedTypes: also what one replacement of RewriteStep leads to has the term.
func TestP5TermsOfReplacedTypes(t *testing.T) {
	r := newChance(83)
	for _, y := range someTerminologies(t, r, 100) {
		for _, k := range typesToCall(r, y) {
			u, _, _, ok := impl.RewriteStep(y.Rules, k)
			if !ok {
				continue
			}
			term, _ := impl.TermFor(y, k)
			next, _ := impl.TermFor(y, u)
			expect(t, next, term, "the term of %v, which follows from %v, in %v", u, k, y)
		}
	}
}

// TestP5TermsAfterLongReduction: the type and the normal form are very many replacements apart.
func TestP5TermsAfterLongReduction(t *testing.T) {
	y := impl.Terminology{Rules: countdown(t)}
	y.Entries = []impl.Entry{{Type: kinType(t, "F"), Term: "father"}, {Type: kinType(t, "FFFFFFFF"), Term: "ancestor"}}
	term, ok := impl.TermFor(y, kinType(t, "m:SSSSSSSS"))
	expect(t, term == "ancestor" && ok, true, "TermFor")
}

// isSolution asks NormalForm itself.
func isSolution(catalog []impl.Rule, mask int, same []impl.TypePair, apart []impl.TypePair) bool {
	_, rules := selected(catalog, mask)
	alike := func(p impl.TypePair) bool {
		return isSameType(impl.NormalForm(rules, p.A), impl.NormalForm(rules, p.B))
	}
	return !slices.ContainsFunc(same, func(p impl.TypePair) bool { return !alike(p) }) && !slices.ContainsFunc(apart, alike)
}

// TestP5FoundRulesAreFewest: what is found is a solution, and no solution comes before it; if nothing is found, there is none.
func TestP5FoundRulesAreFewest(t *testing.T) {
	r := newChance(84)
	counts := make([]int, 9)
	for range 1500 {
		catalog, same, apart := chanceProblem(r)
		found, ok := impl.FindRules(catalog, same, apart)
		if !ok && len(found) > 0 {
			t.Fatalf("%v are found, but false is returned", found)
		}
		has := false
		for mask := range 1 << len(catalog) {
			list, _ := selected(catalog, mask)
			is := (!ok || !comesBefore(found, list)) && isSolution(catalog, mask, same, apart)
			if is && (!ok || !slices.Equal(list, found)) {
				t.Fatalf("%v are found, %v, but %v of %v solve same %v and apart %v", found, ok, list, catalog, same, apart)
			}
			has = has || is
		}
		expect(t, has, ok, "a solution of %v, same %v and apart %v", catalog, same, apart)
		if ok {
			counts[len(found)]++
		}
	}
	for n, count := range counts[:5] {
		if count < 3 {
			t.Errorf("%d solutions have %d rules", count, n)
		}
	}
}

// chanceProblem mostly asks for what a part of the catalog, taken by chance, does.
func chanceProblem(r *rand.Rand) ([]impl.Rule, []impl.TypePair, []impl.TypePair) {
	var catalog []impl.Rule
	for i := range r.IntN(9) {
		catalog = append(catalog, chanceRule(r, i))
	}
	_, rules := selected(catalog, r.IntN(1<<len(catalog)))
	var same, apart []impl.TypePair
	for range r.IntN(12) {
		k := typeWithParts(r, catalog)
		k.Steps = k.Steps[:min(len(k.Steps), 2+r.IntN(3))]
		u := chanceType(r, 1)
		if r.IntN(3) > 0 {
			u = wantForm(rules, k)
		}
		p := impl.TypePair{A: k, B: u}
		if r.IntN(2) == 0 {
			p = impl.TypePair{A: u, B: k}
		}
		if isSameType(wantForm(rules, k), wantForm(rules, u)) {
			same = append(same, p)
		} else {
			apart = append(apart, p)
		}
	}
	if r.IntN(6) == 0 {
		same, apart = apart, same
	}
	return catalog, same, apart
}
