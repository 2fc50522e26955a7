package tests

import (
	"testing"

	"loop.example/g03221/impl"
)

const (
	adam = iota
	eva
	lilith
	ada
	cain
	abel
	seth
	zilla
	enos
	tubal
	stranger
)

func TestP13FindPerson(t *testing.T) {
	f := parse(t, house)
	for i, p := range f.People {
		got, ok := impl.FindPerson(f, p.Name)
		expect(t, got == i && ok, true, "FindPerson %s", p.Name)
	}
	for _, name := range []string{"", "-", "noah", "Adam", "ada ", "adamm", "\xff"} {
		got, ok := impl.FindPerson(f, name)
		expect(t, got == 0 && !ok, true, "FindPerson %q", name)
	}
	got, ok := impl.FindPerson(chainOf(12), "aa")
	expect(t, got == 0 && !ok, true, "FindPerson in a family that is not valid")
}

func TestP13ParentsAndChildren(t *testing.T) {
	f := parse(t, house)
	expect(t, impl.ParentsOf(f, ada), []int{adam, eva}, "the father first")
	expect(t, impl.ParentsOf(f, tubal), []int{cain, ada}, "the father first, though listed later")
	expect(t, impl.ParentsOf(f, zilla), []int{adam}, "no mother")
	expect(t, impl.ParentsOf(f, enos), []int{lilith}, "no father")
	expect(t, impl.ParentsOf(f, adam), []int{}, "no parents")
	expect(t, impl.ChildrenOf(f, adam), []int{cain, seth, ada, abel, zilla}, "the eldest first")
	expect(t, impl.ChildrenOf(f, eva), []int{cain, ada, abel}, "children of a mother")
	expect(t, impl.ChildrenOf(f, lilith), []int{seth, enos}, "children of two fathers")
	expect(t, impl.ChildrenOf(f, tubal), []int{}, "no children")
	depths := []int{}
	for p := range f.People {
		depths = append(depths, impl.DepthOf(f, p))
	}
	expect(t, depths, []int{0, 0, 0, 1, 1, 1, 1, 1, 1, 2, 0}, "depths")
}

func TestP13IsElder(t *testing.T) {
	f := parse(t, house)
	expect(t, impl.IsElder(f, adam, lilith), true, "born before")
	expect(t, impl.IsElder(f, lilith, adam), false, "born after")
	expect(t, impl.IsElder(f, cain, ada), true, "listed later, born before")
	expect(t, impl.IsElder(f, ada, cain), false, "listed before, born later")
	expect(t, impl.IsElder(f, ada, abel), true, "born in one year, listed before")
	expect(t, impl.IsElder(f, abel, ada), false, "born in one year, listed later")
	expect(t, impl.IsElder(f, ada, ada), false, "oneself")
	expect(t, impl.IsElder(f, adam, 11), false, "nobody")
	expect(t, impl.IsElder(f, -1, adam), false, "nobody")
}

func TestP13Siblings(t *testing.T) {
	f := parse(t, house)
	expect(t, impl.FullSiblings(f, cain), []int{ada, abel}, "the eldest first")
	expect(t, impl.FullSiblings(f, abel), []int{cain, ada}, "the eldest first, though listed later")
	expect(t, impl.FullSiblings(f, seth), []int{}, "half siblings only")
	expect(t, impl.FullSiblings(f, zilla), []int{}, "no mother")
	expect(t, impl.FullSiblings(f, adam), []int{}, "parents not known")
	expect(t, impl.HalfSiblings(f, seth), []int{cain, ada, abel, enos, zilla}, "by the father and by the mother")
	expect(t, impl.HalfSiblings(f, cain), []int{seth, zilla}, "no full siblings")
	expect(t, impl.HalfSiblings(f, zilla), []int{cain, seth, ada, abel}, "no mother")
	expect(t, impl.HalfSiblings(f, enos), []int{seth}, "by the mother")
	expect(t, impl.HalfSiblings(f, stranger), []int{}, "parents not known")
	g := parse(t, "man a - - 0 -\nman b a - 5 -\nman c a - 3 -\nwoman d - - 0 -\nman e - d 9 -\nman f - d 9 -\n")
	expect(t, impl.FullSiblings(g, 1), []int{}, "the same father, no mothers known")
	expect(t, impl.HalfSiblings(g, 1), []int{2}, "the same father, no mothers known")
	expect(t, impl.FullSiblings(g, 4), []int{}, "the same mother, no fathers known")
	expect(t, impl.HalfSiblings(g, 4), []int{5}, "the same mother, no fathers known")
}

func TestP13Unions(t *testing.T) {
	f := parse(t, house)
	expect(t, impl.PartnersOf(f, adam), []int{eva, lilith}, "in the order of the unions")
	expect(t, impl.PartnersOf(f, lilith), []int{adam, stranger}, "of a woman")
	expect(t, impl.PartnersOf(f, seth), []int{}, "no unions")
	g := parse(t, "man a - - 0 -\nwoman b - - 0 -\nwoman c - - 0 -\nunion a c 3 -\nunion a b 1 2\n")
	expect(t, impl.PartnersOf(g, 0), []int{2, 1}, "in the order of the unions, not of years or persons")
	ends := []any{}
	for k := range f.Unions {
		year, ended := impl.UnionEnd(f, k)
		ends = append(ends, year, ended)
	}
	expect(t, ends, []any{50, true, 25, true, 70, true, 0, false}, "ends of unions")
	h := parse(t, "man a - - 0 9\nwoman b - - 0 7\nwoman c - - 0 -\nwoman d - - 0 9\nunion a b 1 -\nunion a c 1 -\nunion a d 1 9\n")
	for k, want := range []int{7, 9, 9} {
		year, ended := impl.UnionEnd(h, k)
		expect(t, ended && year == want, true, "end %d", k)
	}
	for _, k := range []int{-1, 4, lowest, highest} {
		year, ended := impl.UnionEnd(f, k)
		expect(t, year == 0 && !ended, true, "no union %d", k)
	}
}

func TestP13IsAlive(t *testing.T) {
	f := parse(t, house)
	for year, want := range map[int]bool{lowest: false, -1: false, 19: false, 20: true, 69: true, 70: false, 71: false, highest: false} {
		expect(t, impl.IsAlive(f, cain, year), want, "cain in %d", year)
	}
	for year, want := range map[int]bool{lowest: false, -1: false, 0: false, 1: true, 9999: true, 10000: true, highest: true} {
		expect(t, impl.IsAlive(f, lilith, year), want, "lilith in %d", year)
	}
	g := parse(t, "man a - - 5 5\n")
	for year := range 10 {
		expect(t, impl.IsAlive(g, 0, year), false, "died in the year of birth, in %d", year)
	}
}

func TestP13MarriedAt(t *testing.T) {
	f := parse(t, house)
	for year, want := range map[int][]int{lowest: {}, -1: {}, 17: {}, 18: {eva}, 19: {eva, lilith}, 24: {eva, lilith}, 25: {eva}, 49: {eva}, 50: {}, highest: {}} {
		expect(t, impl.MarriedAt(f, adam, year), want, "adam in %d", year)
	}
	for year, want := range map[int][]int{18: {}, 19: {adam}, 24: {adam}, 25: {}, 26: {stranger}, 9999: {stranger}, highest: {stranger}} {
		expect(t, impl.MarriedAt(f, lilith, year), want, "lilith in %d", year)
	}
	expect(t, impl.MarriedAt(f, seth, 30), []int{}, "no unions")
	g := parse(t, "man a - - 0 -\nwoman b - - 0 -\nwoman c - - 0 -\nunion a c 3 3\nunion a b 1 -\n")
	expect(t, impl.MarriedAt(g, 0, 3), []int{1}, "ended in its first year")
}

// TestP13ByChance holds all answers about many families against the plain rules.
func TestP13ByChance(t *testing.T) {
	r := newChance(12)
	for range 400 {
		f := chanceFamily(r)
		if !wantFamily(f) || !impl.IsFamily(f) {
			t.Fatalf("not valid: %v", f)
		}
		n := len(f.People)
		for p := range n {
			expect(t, impl.DepthOf(f, p), wantDepth(f, p), "DepthOf %d of %v", p, f)
			expect(t, impl.ParentsOf(f, p), wantParents(f, p), "ParentsOf %d of %v", p, f)
			expect(t, impl.ChildrenOf(f, p), wantByAge(f, func(q int) bool { return f.People[q].Father == p || f.People[q].Mother == p }), "ChildrenOf %d of %v", p, f)
			expect(t, impl.FullSiblings(f, p), wantByAge(f, func(q int) bool { return wantFull(f, p, q) }), "FullSiblings %d of %v", p, f)
			expect(t, impl.HalfSiblings(f, p), wantByAge(f, func(q int) bool { return wantHalf(f, p, q) }), "HalfSiblings %d of %v", p, f)
			expect(t, impl.PartnersOf(f, p), wantPartners(f, p, 0, true), "PartnersOf %d of %v", p, f)
			year := r.IntN(60) - 1
			expect(t, impl.MarriedAt(f, p, year), wantPartners(f, p, year, false), "MarriedAt %d %d of %v", p, year, f)
			x := f.People[p]
			expect(t, impl.IsAlive(f, p, year), x.Born <= year && (x.Died == -1 || year < x.Died), "IsAlive %d %d of %v", p, year, f)
			q := r.IntN(n)
			expect(t, impl.IsElder(f, p, q), wantElder(f, p, q), "IsElder %d %d of %v", p, q, f)
		}
		for k := range f.Unions {
			year, ended := impl.UnionEnd(f, k)
			wantYear, wantEnded := wantEnd(f, k)
			expect(t, year == wantYear && ended == wantEnded, true, "UnionEnd %d of %v", k, f)
		}
	}
}
