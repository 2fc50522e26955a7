package tests

import (
	"cmp"
	"fmt"
	"math/rand/v2"
	"slices"
	"testing"

	"loop.example/g03221/impl"
)

func checkNoEvents(t *testing.T, f impl.Family, label string) {
	t.Helper()
	expect(t, isZeroFamily(impl.Chronological(f)), true, "Chronological: %s", label)
	expect(t, len(impl.EventsOf(f)), 0, "EventsOf: %s", label)
	for _, year := range []int{lowest, -1, 0, 1, 20, 60, 9999, highest} {
		expect(t, isZeroFamily(impl.KnownAt(f, year)), true, "KnownAt %d: %s", year, label)
	}
}

func TestP13EventsOfFamiliesThatAreNotValid(t *testing.T) {
	for i, f := range notFamilies(t) {
		checkNoEvents(t, f, fmt.Sprint("after change ", i))
	}
	checkNoEvents(t, crowdOf(41, 0), "too many persons")
	checkNoEvents(t, crowdOf(40, 61), "too many unions")
	checkNoEvents(t, chainOf(12), "too many generations")
	checkNoEvents(t, crowdOf(100000, 0), "far too many persons")
	late := parse(t, house)
	late.Unions[0].To = 10000
	checkNoEvents(t, late, "a union that ends too late, though it is not known in the years before")
	later := impl.Family{People: []impl.Person{{Name: "c", Sex: 1, Father: 1, Mother: -1, Born: 5, Died: -1}, {Name: "a", Sex: 1, Father: -1, Mother: -1, Born: 0, Died: -1}}}
	checkNoEvents(t, later, "a son before the father, though they are in the order of the years afterwards")
}

func roomyEvents(events []impl.Event) []impl.Event { return roomy(events, impl.Event{Kind: 77}) }

// askEvents returns the families that come out of a family and a history, and what else comes out.
func askEvents(f impl.Family, events []impl.Event, year int) ([]impl.Family, [][]impl.Event, string) {
	built, ok := impl.BuildFamily(events)
	text := impl.FormatEvents(events)
	read, isRead := impl.ParseEvents(text)
	families := []impl.Family{impl.Chronological(f), impl.KnownAt(f, year), impl.KnownAt(f, highest), built}
	return families, [][]impl.Event{impl.EventsOf(f), read}, fmt.Sprint(ok, text, isRead)
}

func TestP13EventsArgumentsAreKept(t *testing.T) {
	r := newChance(226)
	for _, f := range append(eventFamilies(t, r, 8), notFamilies(t)...) {
		events := someHistory()
		if wantFamily(f) {
			events = wantEvents(f)
		}
		if r.IntN(2) == 0 {
			events = brokenHistory(r, events)
		}
		f, events = roomyFamily(f), roomyEvents(events)
		before := familyWithRoom(f) + fmt.Sprint(events[:cap(events)])
		for range 3 {
			askEvents(f, events, chanceYear(r, f))
		}
		expect(t, familyWithRoom(f)+fmt.Sprint(events[:cap(events)]), before, "a family and a history, and the room behind them")
	}
}

// TestP13EventsResultsAreNew writes into all results.
func TestP13EventsResultsAreNew(t *testing.T) {
	eachHistory(t, 227, func(f impl.Family, events []impl.Event, year int) {
		before := fmt.Sprint(f, events)
		families, histories, all := askEvents(f, events, year)
		want := fmt.Sprint(families, histories)
		for i, g := range families {
			clear(g.People[:cap(g.People)])
			clear(g.Unions[:cap(g.Unions)])
			families[i] = impl.Family{}
		}
		for _, list := range histories {
			clear(list[:cap(list)])
		}
		expect(t, fmt.Sprint(f, events), before, "the arguments after the results were changed")
		families, histories, allAgain := askEvents(roomyFamily(f), roomyEvents(events), year)
		expect(t, fmt.Sprint(families, histories), want, "the results after others were changed")
		expect(t, allAgain, all, "the answers after others were changed")
	})
}

// junkEvents is nearly a history, or not at all.
func junkEvents(r *rand.Rand) []impl.Event {
	numbers := []int{lowest, lowest + 1, -2, -1, 0, 1, 2, 3, 4, 5, 39, 40, 9999, 10000, highest - 1, highest}
	number := func() int { return numbers[r.IntN(len(numbers))] }
	if r.IntN(2) == 0 {
		return brokenHistory(r, brokenHistory(r, someHistory()))
	}
	events := []impl.Event{}
	for i := range r.IntN(8) {
		e := impl.Event{Kind: r.IntN(6), Year: number(), Sex: number(), A: number(), B: number()}
		if r.IntN(2) == 0 {
			e.Name = chanceName(r, i)
		}
		events = append(events, e)
	}
	slices.SortFunc(events, func(d, e impl.Event) int { return cmp.Compare(d.Year, e.Year) })
	return events
}

// TestP13EventsNoPanic gives functions families, histories and texts that are far from valid.
func TestP13EventsNoPanic(t *testing.T) {
	r := newChance(228)
	count := map[bool]int{}
	for range 4000 {
		f, year := junkFamily(r), chanceYear(r, impl.Family{})
		if !wantFamily(f) {
			checkNoEvents(t, f, fmt.Sprint(f))
		} else {
			expectFamily(t, impl.KnownAt(f, year), wantKnown(f, year), "KnownAt %v %d", f, year)
		}
		count[checkHistory(t, junkEvents(r))]++
	}
	if count[true] < 200 || count[false] < 1000 {
		t.Errorf("built or not: %v", count)
	}
	words := []string{"0", "1", "9999", "10000", "born", "union", "parted", "died", "man", "woman", "a", "b", "-", "", "\xff", "\n"}
	for range 20000 {
		text := ""
		for range r.IntN(12) {
			text += words[r.IntN(len(words))] + []string{" ", " ", "\n"}[r.IntN(3)]
		}
		events, ok := impl.ParseEvents(text)
		expect(t, ok && wantEventsText(events) != text || !ok && len(events) > 0, false, "ParseEvents %q is %v, %v", text, events, ok)
	}
}
