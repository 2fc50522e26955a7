package tests

import (
	"fmt"
	"math/rand/v2"
	"slices"
	"testing"

	"loop.example/g03221/impl"
)

// checkNoMarriage: there are zero values for two persons of whom one is not there, or for a family or a law that is not valid.
func checkNoMarriage(t *testing.T, f impl.Family, law impl.Law, a int, b int, year int, label string) {
	t.Helper()
	expect(t, len(impl.Impediments(f, law, a, b, year)), 0, "Impediments %d %d: %s", a, b, label)
	expect(t, impl.MayMarry(f, law, a, b, year), false, "MayMarry %d %d: %s", a, b, label)
	g, ok := impl.JoinUnion(f, law, a, b, year)
	checkNoUnion(t, g, ok, label)
}

// checkNoLawful does the same for one person, and for nobody.
func checkNoLawful(t *testing.T, f impl.Family, law impl.Law, p int, label string) {
	t.Helper()
	expect(t, len(impl.PartnersAllowed(f, law, p, 60)), 0, "PartnersAllowed %d: %s", p, label)
	expect(t, impl.MostWeddings(f, law, 60), 0, "MostWeddings: %s", label)
	expect(t, len(impl.AuditUnions(f, law)), 0, "AuditUnions: %s", label)
}

func TestP13MarriagesOfFamiliesThatAreNotValid(t *testing.T) {
	for i, f := range notFamilies(t) {
		label := fmt.Sprint("after change ", i)
		n := len(f.People)
		for a := range f.People {
			checkNoLawful(t, f, free, a, label)
			for b := range f.People {
				checkNoMarriage(t, f, free, a, b, 60, label)
			}
			for _, given := range [][]int{make([]int, n), make([]int, 11), nil} {
				expect(t, len(impl.ClassPartners(f, system(t, "0 0"), given, a)), 0, "ClassPartners %d: %s", a, label)
			}
		}
	}
}

func TestP13MarriagesByLawsThatAreNotValid(t *testing.T) {
	f := parse(t, house)
	for _, law := range notLaws() {
		for p := range f.People {
			checkNoLawful(t, f, law, p, looseLawText(law))
			checkNoMarriage(t, f, law, p, zilla, 60, looseLawText(law))
			checkNoMarriage(t, f, law, stranger, p, 60, looseLawText(law))
		}
		checkNoLawful(t, impl.Family{}, law, 0, looseLawText(law))
	}
}

func TestP13MarriagesOfNoSuchPerson(t *testing.T) {
	for _, f := range []impl.Family{parse(t, house), parse(t, couple), ladder(10), {}} {
		given := make([]int, len(f.People))
		for _, p := range []int{-1, -2, len(f.People), len(f.People) + 1, 40, 64, lowest, highest} {
			expect(t, len(impl.PartnersAllowed(f, free, p, 60)), 0, "PartnersAllowed %d", p)
			expect(t, len(impl.ClassPartners(f, system(t, "0 0"), given, p)), 0, "ClassPartners %d", p)
			checkNoMarriage(t, f, free, p, p, 60, "no such person")
			for q := range f.People {
				checkNoMarriage(t, f, free, p, q, 60, "no such person")
				checkNoMarriage(t, f, free, q, p, 60, "no such person")
			}
		}
	}
}

func TestP13ClassPartnersOfNoClasses(t *testing.T) {
	f := parse(t, house)
	good := make([]int, len(f.People))
	for p := range f.People {
		for label, c := range notSystems() {
			expect(t, len(impl.ClassPartners(f, c, good, p)), 0, "ClassPartners %d: %s", p, label)
		}
		for _, given := range [][]int{nil, good[:10], append(slices.Clone(good), 0), make([]int, 40), make([]int, 100000), allOpen(11)} {
			expect(t, len(impl.ClassPartners(f, system(t, "0 0"), given, p)), 0, "ClassPartners %d of %d classes", p, len(given))
		}
		for i := range good {
			for _, x := range []int{lowest, -1, 1, 2, 64, highest} {
				given := slices.Clone(good)
				given[i] = x
				expect(t, len(impl.ClassPartners(f, system(t, "0 0"), given, p)), 0, "ClassPartners %d of %v", p, given)
			}
		}
	}
}

// A proposal has arguments for all functions.
type proposal struct {
	f     impl.Family
	law   impl.Law
	c     impl.Classes
	given []int
	a     int
	b     int
	year  int
}

func chanceProposal(r *rand.Rand, f impl.Family) proposal {
	c := chanceSystem(r, 1+r.IntN(8))
	n := len(f.People)
	return proposal{f, chanceLaw(r), c, numbersBelow(r, n, len(c.Wife)), r.IntN(n), r.IntN(n), chanceYear(r, f)}
}

// ask returns the lists that come out, and what else comes out.
func (x proposal) ask() ([][]int, string) {
	lists, all := askMarriages(x.f, x.law, x.a, x.b, x.year)
	return append(lists, impl.ClassPartners(x.f, x.c, x.given, x.a)), all
}

func (x proposal) withRoom() proposal {
	x.f, x.c, x.given = roomyFamily(x.f), roomySystem(x.c), roomy(x.given, 77)
	return x
}

// all writes the arguments with the room behind them.
func (x proposal) all() string {
	return fmt.Sprint(x.f.People[:cap(x.f.People)], x.f.Unions[:cap(x.f.Unions)], systemWithRoom(x.c), x.given[:cap(x.given)])
}

func TestP13MarriagesArgumentsAreKept(t *testing.T) {
	r := newChance(190)
	for _, f := range append(marriageFamilies(t, r, 30), notFamilies(t)...) {
		for range 4 * min(1, len(f.People)) {
			x := proposal{f: f, law: free, c: system(t, "10 01"), given: make([]int, len(f.People)), a: stranger, b: zilla, year: 60}
			if impl.IsFamily(f) {
				x = chanceProposal(r, f)
			}
			x = x.withRoom()
			before := x.all()
			x.ask()
			x.law = free
			x.ask()
			expect(t, x.all() == before, true, "the arguments and the room behind them")
		}
	}
}

// TestP13MarriagesResultsAreNew writes into all results, and also into the families that JoinUnion returns.
func TestP13MarriagesResultsAreNew(t *testing.T) {
	r := newChance(191)
	joined := 0
	for _, f := range marriageFamilies(t, r, 30) {
		for range 8 * min(1, len(f.People)) {
			x := chanceProposal(r, f)
			if r.IntN(2) == 0 {
				x.law = free
			}
			x = x.withRoom()
			before := x.all()
			lists, all := x.ask()
			want := fmt.Sprint(lists)
			expect(t, writeLists(lists), true, "results that share no memory, for %s", before)
			audit := impl.AuditUnions(x.f, x.law)
			clear(audit[:cap(audit)])
			g, ok := impl.JoinUnion(x.f, x.law, x.a, x.b, x.year)
			clear(g.People[:cap(g.People)])
			clear(g.Unions[:cap(g.Unions)])
			expect(t, x.all(), before, "the arguments after the results were changed")
			again, allAgain := x.ask()
			expect(t, fmt.Sprint(again), want, "the lists after others were changed")
			expect(t, allAgain, all, "the answers after others were changed")
			if ok {
				joined++
			}
		}
	}
	if joined < 20 {
		t.Errorf("%d unions are joined", joined)
	}
}

func TestP13MarriagesAreTheSameEachTime(t *testing.T) {
	r := newChance(192)
	for _, f := range marriageFamilies(t, r, 10) {
		if len(f.People) == 0 {
			continue
		}
		x := chanceProposal(r, f)
		lists, all := x.ask()
		for range 3 {
			again, allAgain := x.withRoom().ask()
			expect(t, again, lists, "lists")
			expect(t, allAgain, all, "answers")
		}
	}
}

// junkLaw is nearly a law, or not at all.
func junkLaw(r *rand.Rand) impl.Law {
	numbers := []int{lowest, -1, 0, 1, 9, 10, 11, 20, 21, 99, 100, 1 << 32, highest}
	law := chanceLaw(r)
	for range r.IntN(3) {
		*numbersOf(&law)[r.IntN(6)].value = numbers[r.IntN(len(numbers))]
	}
	return law
}

// TestP13MarriagesNoPanic gives functions families, laws, persons and years that are far from valid.
func TestP13MarriagesNoPanic(t *testing.T) {
	r := newChance(193)
	count := map[bool]int{}
	for range 3000 {
		f, law, c := junkFamily(r), junkLaw(r), junkSystem(r)
		a, b, year := r.IntN(len(f.People)+2)-1, r.IntN(len(f.People)+2)-1, chanceYear(r, f)
		expect(t, impl.IsLaw(law), wantLaw(law), "IsLaw %v", law)
		expect(t, impl.FormatLaw(law), wantLawText(law), "FormatLaw %v", law)
		valid := wantFamily(f) && wantLaw(law)
		known := valid && a >= 0 && a < len(f.People) && b >= 0 && b < len(f.People)
		count[known]++
		expect(t, len(impl.AuditUnions(f, law)), map[bool]int{true: len(f.Unions)}[valid], "AuditUnions %v %v", f, law)
		impl.ClassPartners(f, c, junkList(r, len(f.People)), a)
		if !known {
			checkNoMarriage(t, f, law, a, b, year, "not valid")
			continue
		}
		want := stepsOf(f).impediments(law, a, b, year)
		expect(t, impl.Impediments(f, law, a, b, year), want, "Impediments %v %v %d %d %d", f, law, a, b, year)
		expect(t, impl.MostWeddings(f, law, year) <= len(f.People)/2, true, "MostWeddings %v %v %d", f, law, year)
		impl.PartnersAllowed(f, law, a, year)
		impl.JoinUnion(f, law, a, b, year)
	}
	if count[true] < 200 || count[false] < 500 {
		t.Errorf("known or not: %v", count)
	}
}
