package engine

import (
	"cmp"
	"slices"

	"ravelin/api"
	"ravelin/sheet"
	"ravelin/shelf"
	"ravelin/table"
)

// change is what is done by a flush, a merge.
type change struct {
	edit   api.Edit             // of a new sheet: all that there is behind the change
	come   []file               // there ahead of the sheet
	gone   []string             // there until the sheet is
	tables map[int]*table.Table // those of the edit, by their IDs
}

// change tells one by which tables go, and of each row one of that tier comes.
func (e *Engine) change(old []api.Table, rows [][]api.Entry, tier int) change {
	c := change{edit: api.Edit{Log: e.sheet.Log(), Seq: e.sheet.Seq()}, tables: map[int]*table.Table{}}
	for _, t := range e.sheet.Tables() {
		if slices.Contains(old, t) {
			c.gone = append(c.gone, numbered(tableHead, t.ID))
		} else {
			c.add(t, e.tables[t.ID])
		}
	}
	slices.SortFunc(c.edit.Come, byID)
	for i, l := range rows {
		t := api.Table{ID: e.sheet.Next() + i, Tier: tier, First: l[0].Key, End: l[len(l)-1].Key, Count: len(l)}
		laid, _ := table.Make(l)
		opened, _ := table.Open(laid)
		c.add(t, opened)
		c.come = append(c.come, file{numbered(tableHead, t.ID), laid})
	}
	return c
}

// add has a table be there behind the change.
func (c *change) add(t api.Table, opened *table.Table) {
	c.edit.Come = append(c.edit.Come, t)
	c.tables[t.ID] = opened
}

// moveOn has all batches up to seq be in tables: the logs from first to last go, and an empty one comes.
func (c *change) moveOn(first, last, seq int) {
	for n := first; n <= last; n++ {
		c.gone = append(c.gone, numbered(logHead, n))
	}
	next := last + 1
	c.come = append(c.come, file{numbered(logHead, next), ""})
	c.edit.Log, c.edit.Seq = next, seq
}

// carryOut does a change, and keeps it.
func (e *Engine) carryOut(c change) api.Errno {
	next := sheet.New()
	refused := next.Do(c.edit)
	laid, _ := sheet.Bytes(c.edit) // nothing of what is too much for a sheet: it is never on the shelf
	if !c.turn(e.shelf.Copy(), laid) {
		return api.ErrFull // tried ahead: what errs changes nothing
	}
	switch refused {
	case api.OK:
	case api.ErrOrder: // tables of which the sheet told other ends than they have
		return api.ErrSpoilt
	default:
		return api.ErrMany
	}
	c.turn(e.shelf, laid)
	e.shelf.Keep()
	e.sheet, e.tables = *next, c.tables
	return api.OK
}

// turn turns a shelf from one sheet to the next; false, if the shelf refuses. All comes ahead of the sheet, and goes
// behind it: wherever a crash ends it, all is there of what the sheet tells, of the old one or of the next.
func (c change) turn(s *shelf.Shelf, laid string) bool {
	come := queue(c.come)
	var gone <-chan string // nil, and so never chosen, as long as the old sheet is there
work:
	for {
		select {
		case f, more := <-come:
			switch {
			case more && s.Put(f.name, f.bytes) != api.OK:
				return false
			case more:
				continue work
			case !replace(s, file{sheetName, laid}):
				return false
			}
			come, gone = nil, queue(c.gone)
		case name, more := <-gone:
			if !more {
				break work
			}
			s.Drop(name)
		}
	}
	return true
}

// queue tells a list one by one, up to its end.
func queue[T any](l []T) <-chan T {
	c := make(chan T, len(l))
	for _, x := range l {
		c <- x
	}
	close(c)
	return c
}

// byID holds two tables against each other by their IDs.
func byID(a, b api.Table) int { return cmp.Compare(a.ID, b.ID) }
