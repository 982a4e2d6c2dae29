package engine

import (
	"slices"

	"ravelin/api"
	"ravelin/batch"
	"ravelin/sheet"
	"ravelin/shelf"
	"ravelin/table"
)

// firstLog is the number of a new sheet's log.
const firstLog = 1

// upkeep is what is to be done on a shelf ahead of all else.
type upkeep struct {
	belong []string // the names of files that stay: all others of the engine go
	whole  []file   // files that have other bytes, or aren't there
}

// Open: see P15.1.
func Open(s *shelf.Shelf) (*Engine, api.Errno) {
	e := &Engine{shelf: s}
	u, err := e.load()
	if err != api.OK {
		return nil, err
	}
	if !u.do(s.Copy()) { // tried ahead: what errs changes nothing
		return nil, api.ErrFull
	}
	u.do(s)
	return e, api.OK
}

// load takes what the shelf tells, and tells what is still to be done there.
func (e *Engine) load() (upkeep, api.Errno) {
	laid, err := e.shelf.Get(sheetName)
	if err != api.OK {
		return e.begin(), api.OK
	}
	told, took, err := sheet.Read(laid)
	if err != api.OK {
		return upkeep{}, api.ErrSpoilt
	}
	e.sheet = *told
	var u upkeep
	u.leave(sheetName, laid, took)
	if !e.loadTables(&u) {
		return upkeep{}, api.ErrSpoilt
	}
	e.loadLogs(&u)
	return u, api.OK
}

// begin has the engine be one of nothing. No file belongs to it: a log that is there would be read by the next Open.
func (e *Engine) begin() upkeep {
	e.sheet, e.log = *sheet.New(), firstLog
	laid, _ := sheet.Bytes(api.Edit{Log: firstLog})
	return upkeep{whole: []file{{sheetName, laid}, {numbered(logHead, firstLog), ""}}}
}

// loadTables opens all tables of the sheet; false, if one can't be opened.
func (e *Engine) loadTables(u *upkeep) bool {
	e.tables = map[int]*table.Table{}
	for _, t := range e.sheet.Tables() {
		name := numbered(tableHead, t.ID)
		laid, err := e.shelf.Get(name)
		if err != api.OK {
			return false
		}
		opened, err := table.Open(laid)
		if err != api.OK {
			return false
		}
		e.tables[t.ID] = opened
		u.belong = append(u.belong, name)
	}
	return true
}

// loadLogs sees the batches of all logs that go on from the sheet.
func (e *Engine) loadLogs(u *upkeep) {
	e.seq, e.log = e.sheet.Seq(), e.sheet.Log()
	next := e.log
logs:
	for ; next <= maxNumber; next++ {
		name := numbered(logHead, next)
		laid, err := e.shelf.Get(name)
		switch {
		case err != api.OK: // those behind it belong to nothing
			break logs
		case !goesOn(laid, e.seq):
			break logs
		}
		u.leave(name, laid, e.loadLog(laid))
		e.log = next
	}
	if next == e.sheet.Log() { // there is none that the next batch could be added to
		u.whole = append(u.whole, file{numbered(logHead, e.log), ""})
	}
}

// loadLog sees the whole batches of a log, and tells how many bytes these have.
func (e *Engine) loadLog(laid string) int {
	l, last, took := batch.Log(laid)
	if took > 0 {
		e.see(l, last)
	}
	return took
}

// goesOn tells whether a log's first batch is the one behind seq; one without a whole batch leaves no gap.
func goesOn(laid string, seq int) bool {
	first, _, _, err := batch.Read(laid)
	return err != api.OK || first == seq+1
}

// leave has a file stay, but of its bytes only the first ones: of what is behind them nothing could be read.
func (u *upkeep) leave(name, laid string, took int) {
	u.belong = append(u.belong, name)
	if took < len(laid) {
		u.whole = append(u.whole, file{name, laid[:took]})
	}
}

// do does it; false, if the shelf refuses. What belongs to nothing goes first: a new sheet might take it for its own.
func (u upkeep) do(s *shelf.Shelf) bool {
	for _, name := range s.Names() {
		if isOwn(name) && !slices.Contains(u.belong, name) {
			s.Drop(name)
		}
	}
	for _, f := range u.whole {
		if !replace(s, f) {
			return false
		}
	}
	return true
}
