// Package markup: reads marked-up text that comes in pieces: see DOC.md.
package markup

import (
	"markup/api"
	"markup/reader"
)

// Parser reads one text.
type Parser struct {
	reader reader.Reader
	at     int
	// ended is what every later Feed and Close answers: OK as long as the text may go on.
	ended api.Errno
}

// New makes a parser (P3).
func New(o api.Options) (*Parser, api.Errno) {
	if !areOptions(o) {
		return nil, api.ErrOptions
	}
	return &Parser{reader: reader.Make(o)}, api.OK
}

func areOptions(o api.Options) bool {
	return o.Depth >= 1 && o.Depth <= api.MaxDepth &&
		o.Attrs >= 0 && o.Attrs <= api.MaxAttrs &&
		o.Token >= api.MinToken && o.Token <= api.MaxToken
}

// Feed reads a piece (P4 to P6).
func (p *Parser) Feed(piece []byte) ([]api.Event, api.Errno) {
	if p.ended != api.OK {
		return nil, p.ended
	}
	for i := 0; i < len(piece) && p.ended == api.OK; i++ {
		p.at++
		e := p.reader.Read(piece[i])
		p.ended = e
	}
	events := p.reader.Take()
	return events, p.ended
}

// Close tells whether the text is a document (P7).
func (p *Parser) Close() api.Errno {
	if p.ended != api.OK {
		return p.ended
	}
	if !p.reader.IsDocument() {
		p.ended = api.ErrEarly
		return api.ErrEarly
	}
	p.ended = api.ErrClosed
	return api.OK
}

// At tells how many bytes were read (P9).
func (p *Parser) At() int {
	return p.at
}

// Place tells a line and a column (P9).
func (p *Parser) Place() (int, int) {
	return p.reader.Place()
}

// Open tells the names of the elements that are open (P10).
func (p *Parser) Open() []string {
	return p.reader.Open()
}

// Rest tells bytes that complete the document (P10).
func (p *Parser) Rest() []byte {
	if p.ended != api.OK {
		return nil
	}
	return p.reader.Rest()
}
