package parts

import (
	"slices"

	"millrace/api"
	"millrace/dedup"
)

// act does to the ledger what the entry does, and tells whether that makes it another one; beside an error it stays as it is.
func act(l *api.Ledger, e api.Entry) (bool, api.Errno) {
	err := api.OK
	switch e.Kind {
	case api.ENoop:
		return false, api.OK
	case api.ERecord:
		return take(l, e.Rec)
	case api.ESeal:
		err = seal(l, e.N)
	case api.EDeploy:
		err = deploy(l, e.Graph)
	case api.EDecide:
		err = decide(l, e.N)
	case api.EKeep:
		err = keep(l, e.N)
	}
	return err == api.OK, err
}

func take(l *api.Ledger, r api.Record) (bool, api.Errno) {
	rows, what := dedup.Take(l.Rows, r.Producer, r.Part, r.Seq)
	switch {
	case what == dedup.Again:
		return false, api.OK
	case what == dedup.Gap:
		return false, api.ErrGap
	case what == dedup.Ended || l.Counts[r.Part] == api.MaxCount:
		return false, api.ErrExhausted
	case len(l.Open) == api.MaxBatch:
		return false, api.ErrBusy
	}
	l.Rows = rows
	l.Open = append(l.Open, r)
	l.Counts[r.Part]++
	return true, api.OK
}

func seal(l *api.Ledger, epoch int) api.Errno {
	switch {
	case !l.Deployed || epoch != l.Sealed:
		return api.ErrState
	case l.Sealed == api.MaxCount:
		return api.ErrExhausted
	case l.Sealed-l.Decided == api.MaxSealed:
		return api.ErrBusy
	}
	l.Batches = append(l.Batches, api.Batch{Epoch: epoch, Records: l.Open})
	l.Open = nil
	l.Sealed++
	return api.OK
}

func deploy(l *api.Ledger, g api.Graph) api.Errno {
	switch {
	case l.Deployed:
		return api.ErrState
	case !isRight(g):
		return api.ErrGraph
	}
	l.Deployed = true
	l.Graph = copiedGraph(g)
	return api.OK
}

func decide(l *api.Ledger, epoch int) api.Errno {
	if epoch != l.Decided || epoch >= l.Sealed {
		return api.ErrState
	}
	l.Decided++
	forget(l)
	return api.OK
}

func keep(l *api.Ledger, many int) api.Errno {
	if many > api.MaxKeep {
		return api.ErrArg
	}
	l.Keep = many
	forget(l)
	return api.OK
}

// forget lets the batches go that are kept no longer.
func forget(l *api.Ledger) {
	gone := func(b api.Batch) bool { return b.Epoch < l.Decided-l.Keep }
	l.Batches = slices.DeleteFunc(l.Batches, gone)
}
