package handle

import "vellum/api"

const allModes = api.MRead + api.MWrite + api.MAppend + api.MCreate + api.MFresh + api.MEmpty

func has(mode, part int) bool { return mode&part != 0 }

// mayBe says whether a file can be opened by that mode.
func mayBe(mode int) bool {
	switch {
	case mode < 0 || mode > allModes:
		return false
	case has(mode, api.MAppend+api.MEmpty) && !has(mode, api.MWrite):
		return false
	case has(mode, api.MFresh) && !has(mode, api.MCreate):
		return false
	}
	return has(mode, api.MRead+api.MWrite)
}

// opened is an open file, by what its mode lets a handle do. What a mode does not allow its type refuses itself: nobody else asks for the mode once the file is open.
type opened interface {
	read(n int) ([]byte, api.Errno)
	write(data []byte) (int, api.Errno)
	seek(off, whence int) (int, api.Errno)
	stat() (api.Stat, api.Errno)
	release() api.Errno
}

// openedBy is an open file of that mode.
func openedBy(mode int, at *place) opened {
	reads, appends := has(mode, api.MRead), has(mode, api.MAppend)
	switch {
	case !has(mode, api.MWrite):
		return reader{at}
	case reads && appends:
		return readAppender{reader{at}}
	case reads:
		return readWriter{reader{at}}
	case appends:
		return appender{writer{at}}
	}
	return writer{at}
}

type reader struct{ *place }

func (o reader) read(n int) ([]byte, api.Errno) { return o.get(n) }

func (o reader) write([]byte) (int, api.Errno) { return 0, api.ErrMode }

type writer struct{ *place }

func (o writer) read(int) ([]byte, api.Errno) { return nil, api.ErrMode }

func (o writer) write(data []byte) (int, api.Errno) { return o.put(data, o.here) }

type appender struct{ writer }

func (o appender) write(data []byte) (int, api.Errno) { return o.put(data, o.size) }

type readWriter struct{ reader }

func (o readWriter) write(data []byte) (int, api.Errno) { return o.put(data, o.here) }

type readAppender struct{ reader }

func (o readAppender) write(data []byte) (int, api.Errno) { return o.put(data, o.size) }
