package markup_test

import (
	"testing"

	"markup/api"
	"markup/markup"
)

// spoil writes into a list of events all over, into its spare room and into the lists in it too.
func spoil(list []api.Event) {
	list = list[:cap(list)]
	for i := range list {
		attrs := list[i].Attrs[:cap(list[i].Attrs)]
		for k := range attrs {
			attrs[k] = api.Attr{Name: "spoilt", Space: "spoilt", Value: "spoilt"}
		}
		list[i] = api.Event{Kind: 99, Name: "spoilt", Value: "spoilt"}
	}
}

func isSpoilt(list []api.Event) bool {
	for _, e := range list[:cap(list)] {
		if e.Kind != 99 || e.Name != "spoilt" || e.Value != "spoilt" || len(e.Attrs) != 0 {
			return false
		}
	}
	return true
}

// TestOwners: P2: who has been told events may write into them, and into the piece that he has fed.
func TestOwners(t *testing.T) {
	for _, s := range everySample() {
		for _, n := range []int{1, 2, 3, 5, 8} {
			p := parser(t, s.o)
			var told []api.Event
			var spoilt [][]api.Event
			for rest := s.text; rest != ""; {
				k := min(n, len(rest))
				room := []byte(rest[:k] + "spare room")
				list, _ := p.Feed(room[:k])
				if string(room) != rest[:k]+"spare room" {
					t.Fatalf("P2: the piece %q or what stands behind it was written into: %q", rest[:k], room)
				}
				for i := range room {
					room[i] = '<'
				}
				for _, e := range list {
					e.Attrs = append([]api.Attr{}, e.Attrs...)
					told = append(told, e)
				}
				spoil(list)
				spoilt = append(spoilt, list)
				rest = rest[k:]
			}
			if words(joined(told)) != s.events {
				t.Errorf("P2: %q in pieces of %d, with all spoilt in between: %s", s.text, n, words(joined(told)))
			}
			for _, list := range spoilt {
				if !isSpoilt(list) {
					t.Errorf("P2: %q in pieces of %d: a later call wrote into %+v", s.text, n, list)
				}
			}
		}
	}
}

// TestNoSharedRoom: P2: no two lists of attributes have room in common, nor the spare room behind them.
func TestNoSharedRoom(t *testing.T) {
	noSharedRoom(t, usual, "<a b='1' c='2' d='3'><e b='4'/><f g='5' h='6'>")
	noSharedRoom(t, named, "<p:a b='1' xmlns:p='u' c='2' d='3' xmlns='v'><e p:b='4'/><f g='5' xmlns:q='w' p:h='6'>")
}

func noSharedRoom(t *testing.T, o api.Options, text string) {
	t.Helper()
	p := parser(t, o)
	list, _ := p.Feed([]byte(text))
	want := words(list)
	for i := range list {
		if len(list[i].Attrs) == 0 {
			continue
		}
		_ = append(list[i].Attrs, api.Attr{Name: "more"})
		kept := append([]api.Attr{}, list[i].Attrs...)
		attrs := list[i].Attrs[:cap(list[i].Attrs)]
		for k := range attrs {
			attrs[k] = api.Attr{Name: "spoilt"}
		}
		copy(list[i].Attrs, kept)
		if words(list) != want {
			t.Fatalf("P2: the attributes of the event %d share room: %s, want %s", i, words(list), want)
		}
	}
}

// TestStrangers: P2: parsers know nothing of one another.
func TestStrangers(t *testing.T) {
	var all []*markup.Parser
	samples := everySample()
	told := make([][]api.Event, len(samples))
	for _, s := range samples {
		all = append(all, parser(t, s.o))
	}
	for i, busy := 0, true; busy; i++ {
		busy = false
		for k, s := range samples {
			if i >= len(s.text) {
				continue
			}
			busy = true
			list, _ := all[k].Feed([]byte{s.text[i]})
			told[k] = append(told[k], list...)
		}
	}
	for k, s := range samples {
		got := outcome{words(joined(told[k])), s.feed, s.end, all[k].At()}
		if e := all[k].Close(); got != s.want() || e != s.end {
			t.Errorf("P2: %q, fed in turns with others: %+v, Close %d; want %+v", s.text, got, e, s.want())
		}
	}
}
