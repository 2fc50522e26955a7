package tests

import (
	"fmt"
	"slices"
	"testing"

	"loop.example/g03221/impl"
)

// askMarriages returns the lists that come out of all functions of chapter 10 for two persons, and what else comes out.
func askMarriages(f impl.Family, law impl.Law, a int, b int, year int) ([][]int, string) {
	lists := [][]int{impl.PartnersAllowed(f, law, a, year), impl.PartnersAllowed(f, law, b, year), impl.Impediments(f, law, a, b, year)}
	lists = append(lists, impl.AuditUnions(f, law)...)
	g, ok := impl.JoinUnion(f, law, a, b, year)
	return lists, fmt.Sprint(ok, g.Unions, impl.MayMarry(f, law, a, b, year), impl.MostWeddings(f, law, year))
}

func TestP2NamesDoNotMatterForMarriages(t *testing.T) {
	r := newChance(186)
	for _, f := range marriageFamilies(t, r, 20) {
		g, ok := impl.RenamePeople(f, otherNames(len(f.People)))
		if !ok {
			t.Fatalf("RenamePeople refuses %v", f)
		}
		for range 4 * min(1, len(f.People)) {
			law, a, b, year := chanceLaw(r), r.IntN(len(f.People)), r.IntN(len(f.People)), chanceYear(r, f)
			lists, all := askMarriages(f, law, a, b, year)
			otherLists, otherAll := askMarriages(g, law, a, b, year)
			expect(t, otherLists, lists, "the lists of %v for %d and %d under other names", f, a, b)
			expect(t, otherAll, all, "what is said of %d and %d of %v under other names", a, b, f)
		}
	}
}

func TestP2OrderDoesNotMatterForMarriages(t *testing.T) {
	r := newChance(187)
	for _, f := range marriageFamilies(t, r, 20) {
		order := parentsFirst(r, f)
		g, ok := impl.PermutePeople(f, order)
		if !ok {
			t.Fatalf("PermutePeople refuses %v for %v", order, f)
		}
		places := make([]int, len(order))
		for k, p := range order {
			places[p] = k
		}
		for range 4 * min(1, len(f.People)) {
			law, a, b, year := chanceLaw(r), r.IntN(len(f.People)), r.IntN(len(f.People)), chanceYear(r, f)
			label := fmt.Sprintf("%v for %s, %d and %d in %d, in the order %v", f, looseLawText(law), a, b, year, order)
			lists, _ := askMarriages(f, law, a, b, year)
			movedLists, _ := askMarriages(g, law, places[a], places[b], year)
			for _, list := range lists[:2] {
				for i, p := range list {
					list[i] = places[p]
				}
				slices.Sort(list)
			}
			expect(t, movedLists, lists, "the lists of %s", label)
			joined, ok := impl.JoinUnion(f, law, a, b, year)
			moved, alsoOk := impl.JoinUnion(g, law, places[a], places[b], year)
			expect(t, alsoOk, ok, "JoinUnion %s", label)
			if ok {
				want, _ := impl.PermutePeople(joined, order)
				expect(t, impl.EqualFamilies(moved, want), true, "JoinUnion %s", label)
			}
			expect(t, impl.MayMarry(g, law, places[a], places[b], year), impl.MayMarry(f, law, a, b, year), "MayMarry %s", label)
			expect(t, impl.MostWeddings(g, law, year), impl.MostWeddings(f, law, year), "MostWeddings %s", label)
		}
	}
}

func TestP2OrderDoesNotMatterForClassPartners(t *testing.T) {
	r := newChance(188)
	for range 60 {
		c := chanceSystem(r, 1+r.IntN(8))
		f, classes := classedFamily(r, c, 1+r.IntN(30))
		order := parentsFirst(r, f)
		g, _ := impl.PermutePeople(f, order)
		renamed, _ := impl.RenamePeople(f, otherNames(len(f.People)))
		places := make([]int, len(order))
		for k, p := range order {
			places[p] = k
		}
		moved := movedList(classes, places)
		for p := range f.People {
			list := impl.ClassPartners(f, c, classes, p)
			expect(t, impl.ClassPartners(renamed, c, classes, p), list, "ClassPartners %v %d under other names", f, p)
			for i, q := range list {
				list[i] = places[q]
			}
			slices.Sort(list)
			expect(t, impl.ClassPartners(g, c, moved, places[p]), list, "ClassPartners %v %d in the order %v", f, p, order)
		}
	}
}

// TestP2OrderOfUnionsDoesNotMatter: but for unions that began in one year, each one keeps its impediments in another place.
func TestP2OrderOfUnionsDoesNotMatter(t *testing.T) {
	r := newChance(189)
	moved := 0
	for _, f := range marriageFamilies(t, r, 20) {
		order := r.Perm(len(f.Unions))
		g := impl.Family{People: f.People}
		for _, k := range order {
			g.Unions = append(g.Unions, f.Unions[k])
		}
		slices.SortStableFunc(g.Unions, func(u impl.Union, v impl.Union) int { return v.From - u.From })
		law := chanceLaw(r)
		audit, other := impl.AuditUnions(f, law), impl.AuditUnions(g, law)
		for k, u := range f.Unions {
			sameYear := func(v impl.Union) bool { return v.From == u.From }
			if slices.ContainsFunc(f.Unions[:k], sameYear) || slices.ContainsFunc(f.Unions[k+1:], sameYear) {
				continue
			}
			expect(t, other[slices.Index(g.Unions, u)], audit[k], "AuditUnions %v %s of the union %d", f, looseLawText(law), k)
			moved++
		}
		for range 4 * min(1, len(f.People)) {
			a, b, year := r.IntN(len(f.People)), r.IntN(len(f.People)), chanceYear(r, f)
			expect(t, impl.Impediments(g, law, a, b, year), impl.Impediments(f, law, a, b, year), "Impediments %v %s %d %d %d", f, looseLawText(law), a, b, year)
		}
	}
	if moved < 100 {
		t.Errorf("%d unions are in a year of their own", moved)
	}
}
