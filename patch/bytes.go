package patch

import (
	"vellum/api"
	"vellum/parcel"
)

// magic is how every patch begins.
const magic = "vlpatch\x01"

// noChange stands behind the last change, in the place of a kind.
const noChange = 0

// written are the bytes of a patch that is right.
func written(p api.Patch) ([]byte, api.Errno) {
	w := parcel.Writer{Bytes: []byte(magic)}
	w.Number(p.Base, parcel.SumBytes)
	w.Number(p.Goal, parcel.SumBytes)
	for _, change := range p.Changes {
		write(&w, change)
		if len(w.Bytes) > api.MaxPatch-parcel.EndBytes {
			return nil, api.ErrLong
		}
	}
	w.End(len(p.Changes))
	return w.Bytes, api.OK
}

func write(w *parcel.Writer, change api.Change) {
	w.Number(change.Kind, parcel.KindBytes)
	item := change.Item
	switch change.Kind {
	case api.CDrop:
		w.Text(item.Path)
	case api.CPut:
		w.Item(item)
	case api.CEdit:
		w.Text(item.Path)
		w.Number(item.Size, parcel.SizeBytes)
		w.Rows(item.Runs)
		w.Rows(change.Set)
		w.Data(item.Data)
	}
}

// read tells what a patch says, with no more changes than may be; of what is no patch, something of which Pack makes none, or another one.
func read(patch []byte) api.Patch {
	r := parcel.NewReader(patch)
	r.Skip(len(magic))
	p := api.Patch{Base: r.Number(parcel.SumBytes), Goal: r.Number(parcel.SumBytes)}
	for kind := r.Number(parcel.KindBytes); kind != noChange && len(p.Changes) < maxChanges; kind = r.Number(parcel.KindBytes) {
		p.Changes = append(p.Changes, readChange(r, kind))
	}
	return p
}

func readChange(r *parcel.Reader, kind int) api.Change {
	change := api.Change{Kind: kind}
	switch kind {
	case api.CDrop:
		change.Item.Path = r.Text()
	case api.CPut:
		change.Item = r.Item(r.Number(parcel.KindBytes))
	case api.CEdit:
		change.Item = api.Item{Kind: api.KFile, Path: r.Text(), Size: r.Number(parcel.SizeBytes), Runs: r.Rows()}
		change.Set = r.Rows()
		change.Item.Data = r.Data(change.Set)
	}
	return change
}
