package tests

import (
	"slices"
	"strings"
	"testing"

	"loop.example/g03221/impl"
)

// TestP2NamesDoNotMatterForEvents: under other names, the same persons are in the same events.
func TestP2NamesDoNotMatterForEvents(t *testing.T) {
	eachHistory(t, 224, func(f impl.Family, _ []impl.Event, year int) {
		names := otherNames(len(f.People))
		rename := func(f impl.Family, people []int) impl.Family {
			list := []string{}
			for _, p := range people {
				list = append(list, names[p])
			}
			g, ok := impl.RenamePeople(f, list)
			if !ok {
				t.Fatalf("RenamePeople refuses %q for %v", list, f)
			}
			return g
		}
		all := allPeople(f)
		g := rename(f, all)
		order := byYear(len(all), func(i int) int { return f.People[i].Born })
		expectFamily(t, impl.Chronological(g), rename(impl.Chronological(f), order), "Chronological %v under other names", f)
		known := slices.DeleteFunc(all, func(p int) bool { return f.People[p].Born > year })
		expectFamily(t, impl.KnownAt(g, year), rename(impl.KnownAt(f, year), known), "KnownAt %v %d under other names", f, year)
		events := impl.EventsOf(f)
		for i, e := range events {
			if e.Kind == impl.EventBirth {
				p, _ := impl.FindPerson(f, e.Name)
				events[i].Name = names[p]
			}
		}
		expect(t, slices.Equal(impl.EventsOf(g), events), true, "EventsOf %v under other names", f)
	})
}

func sortedLines(text string) []string {
	list := strings.Split(text, "\n")
	slices.Sort(list)
	return list
}

// TestP2OrderDoesNotMatterForEvents: in another order, the same happens to the same persons, and in the same order if no two are born in one year.
func TestP2OrderDoesNotMatterForEvents(t *testing.T) {
	r := newChance(225)
	exact := 0
	for _, f := range eventFamilies(t, r, 12) {
		if r.IntN(2) == 0 {
			f = withDeaths(r, spreadBirths(f))
			for range 20 {
				addChanceUnion(r, &f)
			}
		}
		order := parentsFirst(r, f)
		g, ok := impl.PermutePeople(f, order)
		if !ok {
			t.Fatalf("PermutePeople refuses %v for %v", order, f)
		}
		year := chanceYear(r, f)
		places := impl.InversePermutation(order)
		known := slices.DeleteFunc(allPeople(f), func(p int) bool { return f.People[p].Born > year })
		byPlace := slices.Clone(known)
		slices.SortFunc(byPlace, func(p int, q int) int { return places[p] - places[q] })
		moved := []int{}
		for _, p := range byPlace {
			moved = append(moved, slices.Index(known, p))
		}
		want, ok := impl.PermutePeople(impl.KnownAt(f, year), moved)
		expect(t, ok, true, "KnownAt %v %d in the order %v", f, year, moved)
		expectFamily(t, impl.KnownAt(g, year), want, "KnownAt %v %d in the order %v", f, year, order)
		text, movedText := impl.FormatEvents(impl.EventsOf(f)), impl.FormatEvents(impl.EventsOf(g))
		expect(t, sortedLines(movedText), sortedLines(text), "the events of %v in the order %v", f, order)
		births := byYear(len(f.People), func(i int) int { return f.People[i].Born })
		if slices.ContainsFunc(births[min(1, len(births)):], func(p int) bool {
			return f.People[births[slices.Index(births, p)-1]].Born == f.People[p].Born
		}) {
			continue
		}
		exact++
		expectFamily(t, impl.Chronological(g), impl.Chronological(f), "Chronological %v in the order %v", f, order)
		expect(t, movedText, text, "the history of %v in the order %v", f, order)
	}
	if exact < 50 {
		t.Errorf("%d families have no two persons who are born in one year", exact)
	}
}
