// Package rows: what a file holds, by the rows of its indexes that hold blocks, and such rows by themselves. A file is asked by operations, by whichever of its ways the caller has to do them. The packages over the file system share it.
package rows

import "vellum/api"

// Read is the rows of a file and the bytes of them all, 512 for each index; those behind the size, which no read tells, are zeros. The operation says by its Path or its Node which file is meant.
func Read(file api.Op, do func(api.Op) api.Reply) ([]api.Run, []byte) {
	file.Kind = api.OpRuns
	runs := do(file).Runs
	var data []byte
	for _, run := range runs {
		data = append(data, content(file, run, do)...)
	}
	return runs, data
}

// content is the bytes of one row.
func content(file api.Op, run api.Run, do func(api.Op) api.Reply) []byte {
	data := make([]byte, (run.To-run.From)*api.Size)
	for at := 0; at < len(data); at += api.MaxIO {
		file.Kind, file.Off, file.N = api.OpRead, run.From*api.Size+at, min(api.MaxIO, len(data)-at)
		copy(data[at:], do(file).Data)
	}
	return data
}
