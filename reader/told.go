package reader

import "markup/api"

// told gathers events. Text waits beside the list until another event comes, so that neighbours are joined.
type told struct {
	list []api.Event
	text []byte
}

func (t *told) add(e api.Event) {
	t.endText()
	t.list = append(t.list, e)
}

func (t *told) endText() {
	if len(t.text) == 0 {
		return
	}
	t.list = append(t.list, api.Event{Kind: api.Text, Value: string(t.text)})
	t.text = nil
}

// take lets go of the list, for it is the caller's then.
func (t *told) take() []api.Event {
	t.endText()
	list := t.list
	t.list = nil
	return list
}
